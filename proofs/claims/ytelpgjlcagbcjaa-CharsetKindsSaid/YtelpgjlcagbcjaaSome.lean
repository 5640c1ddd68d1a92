/- some(s, characters): slices.ContainsFunc over the bytes of s, with a closure that asks strings.IndexByte. -/
import Derived.Test.YtelpgjlcagbcjaaAwake
namespace Go.Proofs.Ytelpgjlcagbcjaa
set_option linter.unusedSimpArgs false
set_option linter.unusedVariables false
open Go.RowKit

def inB (ch : List UInt8) (c : UInt8) : Bool := decide (0 ≤ Lib.indexByte ch c)
def someB (l ch : List UInt8) : Bool := l.any (inB ch)
theorem inB_mem : ∀ (ch : List UInt8) (c : UInt8), inB ch c = decide (c ∈ ch)
  | [], c => rfl
  | b :: l, c => by
    have ih := inB_mem l c
    have hge := Lib.indexByte_ge l c
    simp only [inB, Lib.indexByte, List.mem_cons] at ih ⊢
    by_cases h : b = c
    · subst h; simp
    · have h' : ¬ c = b := fun e => h e.symm
      by_cases h1 : Lib.indexByte l c = -1
      · have : ¬ (0 : Int) ≤ Lib.indexByte l c := by omega
        have hm : ¬ c ∈ l := by simpa [this] using ih
        simp [h, h', h1, hm]
      · have h2 : (0 : Int) ≤ Lib.indexByte l c := by omega
        have h3 : (0 : Int) ≤ Lib.indexByte l c + 1 := by omega
        have hm : c ∈ l := by simpa [h2] using ih
        simp [h, h1, h3, hm]

set_option maxHeartbeats 400000 in
theorem someF_any (c : UInt8) (ch : ByteArray) (Bx : Nat) (w : World) (hb : w.cell? ⟨Bx, 0, none⟩ = some (.string ch)) :
    Calls Try.prog 45 #[.int .u8 c.toNat, .pointer (some ⟨Bx, 0, none⟩)] w fun e w' => e = .returned (.bool (inB ch.data.toList c)) ∧ w = w' := by
  go_enter Try.func45, Try.ntmps45
  go_wp2_with fail
  refine (Try.strings_IndexByte ch (c.toNat : Int) w).mono ?_
  have e0 : ((c.toNat : Int)).toNat.toUInt8 = c := by simp
  rw [e0]
  rintro e w' ⟨rfl, rfl⟩
  go_wp2
  go_ret
  exact ⟨ret_bool rfl, rfl⟩

theorem bytes_at {W : World} {B : Nat} {l : List UInt8} (h : BytesAt W B l) {k : Nat} (hk : k < l.length) : W.cell? ⟨B, k, none⟩ = some (.int .u8 l[k].toNat) := (h k hk).1

/-- an index that is found, or a number below 0 -/
def IdxPost (b : Bool) (w : World) (e : Ending) (w' : World) : Prop := ∃ r : Int, e = .returned (.int .i64 r) ∧ decide (0 ≤ r) = b ∧ w = w'

set_option maxHeartbeats 1000000 in
theorem indexF_any (l : List UInt8) (hl : l.length ≤ 140737488351232) (B cap : Nat) (ch : ByteArray) (Bx : Nat) (w : World) (hat : BytesAt w B l) (hb : w.cell? ⟨Bx, 0, none⟩ = some (.string ch)) :
    Calls Try.prog 55 #[.slice (some ⟨B, 0, none⟩) l.length cap, .func (.func 45) #[] #[.pointer (some ⟨Bx, 0, none⟩)]] w (IdxPost (someB l ch.data.toList) w) := by
  have HA := Lib.hid hat
  have HBx := Lib.hid hb
  clear hat hb
  go_enter Try.func55, Try.ntmps55
  go_wp2
  go_loop [8] (fun i => ∃ k : Nat, k ≤ l.length ∧ i = .int .i64 k ∧ someB (l.take k) ch.data.toList = false) (fun i => l.length - (intOf i).toNat)
  case atStart => exact ⟨0, Nat.zero_le _, rfl, rfl⟩
  case round =>
    obtain ⟨k, hk, rfl, hs⟩ := hrel
    have HS := Lib.hid hs
    clear hs
    by_cases hlt : k < l.length
    · have hcell := bytes_at HA.out hlt
      have hstep : someB (l.take (k + 1)) ch.data.toList = (someB (l.take k) ch.data.toList || inB ch.data.toList l[k]) := by
        rw [List.take_succ_eq_append_getElem hlt, someB, List.any_append]; simp [someB]
      have HT := Lib.hid hstep
      clear hstep
      obtain ⟨b, hbb⟩ : ∃ b, inB ch.data.toList l[k] = b := ⟨_, rfl⟩
      have HB := Lib.hid hbb
      clear hbb
      go_wp2_with fail
      refine (someF_any l[k] ch Bx _ HBx.out).mono ?_
      rw [HB.out]
      rintro e w' ⟨rfl, rfl⟩
      cases b with
      | true =>
        go_wp2
        go_ret
        refine ⟨_, rfl, ?_, rfl⟩
        have h1 : someB l ch.data.toList = true := by
          rw [someB, ← List.take_append_drop (k + 1) l, List.any_append]
          have : (l.take (k + 1)).any (inB ch.data.toList) = true := by
            have := HT.out
            rw [HB.out, Bool.or_true] at this
            exact this
          rw [this]; rfl
        rw [h1]; simp
      | false =>
        go_wp2
        go_round
        case rel => exact ⟨k + 1, by omega, by go_num, by rw [HT.out, HB.out, HS.out]; rfl⟩
        case measure => simp [intOf]; omega
    · obtain rfl : k = l.length := by omega
      go_wp2
      go_ret
      refine ⟨_, rfl, ?_, rfl⟩
      have := HS.out
      rw [List.take_length] at this
      rw [this]; rfl

set_option maxHeartbeats 400000 in
theorem containsF_any (l : List UInt8) (hl : l.length ≤ 140737488351232) (B cap : Nat) (ch : ByteArray) (Bx : Nat) (w : World) (hat : BytesAt w B l) (hb : w.cell? ⟨Bx, 0, none⟩ = some (.string ch)) :
    Calls Try.prog 44 #[.slice (some ⟨B, 0, none⟩) l.length cap, .func (.func 45) #[] #[.pointer (some ⟨Bx, 0, none⟩)]] w fun e w' => e = .returned (.bool (someB l ch.data.toList)) ∧ w = w' := by
  have HA := Lib.hid hat
  have HBx := Lib.hid hb
  clear hat hb
  go_enter Try.func44, Try.ntmps44
  go_wp2_with fail
  refine (indexF_any l hl B cap ch Bx _ HA.out HBx.out).mono ?_
  rintro e w' ⟨r, rfl, hr, rfl⟩
  have HR := Lib.hid hr
  clear hr
  go_wp2
  go_ret
  exact ⟨ret_bool HR.out, rfl⟩

theorem containsF_str (s : ByteArray) (hl : s.size ≤ 140737488351232) (B cap : Nat) (ch : ByteArray) (Bx : Nat) (w : World) (hat : BytesAt w B s.data.toList) (hb : w.cell? ⟨Bx, 0, none⟩ = some (.string ch)) :
    Calls Try.prog 44 #[.slice (some ⟨B, 0, none⟩) s.size cap, .func (.func 45) #[] #[.pointer (some ⟨Bx, 0, none⟩)]] w fun e w' => e = .returned (.bool (someB s.data.toList ch.data.toList)) ∧ w = w' := by
  have h := containsF_any s.data.toList (by rw [size_list]; exact hl) B cap ch Bx w hat hb
  rwa [size_list] at h

set_option maxHeartbeats 1000000 in
theorem some_any (s ch : ByteArray) (hs : s.size ≤ 140737488351232) (w : World) :
    Calls Try.prog 31 #[.string s, .string ch] w fun e w' => e = .returned (.bool (someB s.data.toList ch.data.toList)) ∧ Below w.heap.size w w' := by
  obtain ⟨w0, hw0⟩ : ∃ w0, w.alloc (.cells #[.string ch] 9) = w0 := ⟨_, rfl⟩
  have hsz : w0.heap.size = w.heap.size + 1 := by rw [← hw0]; simp
  have hbox : w0.cell? ⟨w.heap.size, 0, none⟩ = some (.string ch) := by rw [← hw0]; simp
  have hb0 : Below w.heap.size w w0 := by rw [← hw0]; exact (Below.refl _ _).alloc (Nat.le_refl _) _
  have hrun := run_bytes_of_string (P := Try.prog) w0 9 45 5 s Try.underlying9 Try.underlying45 Try.underlying5
  have hnew := bytes_new w0 s (grownCap w0 s.size 0 5) 5
  have hbel : Below w0.heap.size w0 (w0.drew.alloc (.cells (bytesRow s (grownCap w0 s.size 0 5)) 5 ((bytesRow s (grownCap w0 s.size 0 5)).size, (bytesRow s (grownCap w0 s.size 0 5)).size + 1))) := (Below.refl _ _).drew.alloc (Nat.le_refl _) _
  obtain ⟨w1, hw1⟩ : ∃ w1, w0.drew.alloc (.cells (bytesRow s (grownCap w0 s.size 0 5)) 5 ((bytesRow s (grownCap w0 s.size 0 5)).size, (bytesRow s (grownCap w0 s.size 0 5)).size + 1)) = w1 := ⟨_, rfl⟩
  rw [hw1] at hrun hnew hbel
  clear hw1
  obtain ⟨cap, hcap⟩ : ∃ cap, grownCap w0 s.size 0 5 = cap := ⟨_, rfl⟩
  rw [hcap] at hrun
  clear hcap
  have hbox1 : w1.cell? ⟨w.heap.size, 0, none⟩ = some (.string ch) := (hbel.cell (p := ⟨w.heap.size, 0, none⟩) (by show w.heap.size < w0.heap.size; omega)).trans hbox
  have HN := Lib.hid hnew
  have HB := Lib.hid hbox1
  have HZ := Lib.hid hsz
  have hB := below_seq hb0 hbel (Nat.le_refl _)
  clear hnew hbox1 hsz hbox hbel hb0
  go_enter Try.func31, Try.ntmps31
  go_wp2_with fail
  refine (containsF_str s (by omega) _ cap ch _ _ HN.out HB.out).mono ?_
  rintro e w2 ⟨rfl, rfl⟩
  go_wp2
  go_ret
  exact ⟨rfl, hB⟩
theorem some_at (s ch : ByteArray) (r : Bool) (h : someB s.data.toList ch.data.toList = r) (hs : s.size ≤ 140737488351232) (w : World) :
    Calls Try.prog 31 #[.string s, .string ch] w fun e w' => e = .returned (.bool r) ∧ Below w.heap.size w w' := by subst h; exact some_any s ch hs w
end Go.Proofs.Ytelpgjlcagbcjaa
