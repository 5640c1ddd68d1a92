/- The laws' function some: whether a string has one of some characters. -/
import Derived.Test.YtdgihkgomfpmoaaDoorMkRef1
import Derived.Test.YtdgihkgomfpmoaaDoorShelf
import Derived.Laws.IdiomStrings
import Derived.Deep.Cut
namespace Go.Proofs.YtdgihkgomfpmoaaDoor
set_option linter.unusedSimpArgs false
set_option linter.unusedVariables false
set_option maxRecDepth 100000
open Go.RowKit Go.Deep

open R01 (size_list)
theorem ba_get (s : ByteArray) (j : Nat) (h : j < s.size) : s.data.toList[j]'(by rw [size_list]; exact h) = s[j] := by
  rw [Array.getElem_toList]; rfl
theorem below_seq {N M : Nat} {w w1 w2 : World} (h1 : Below N w w1) (h2 : Below M w1 w2) (h : N ≤ M) : Below N w w2 := h1.trans (h2.mono h)
theorem below_box0 (w : World) (o : Obj) : Below w.heap.size w (w.alloc o) := (Below.refl _ w).alloc (Nat.le_refl _) o
theorem index_cases (e : UInt8) (l : List UInt8) : (Lib.indexByte l e = -1 ∧ l.any (· == e) = false) ∨ (∃ k : Nat, Lib.indexByte l e = k ∧ l.any (· == e) = true) := by
  induction l with
  | nil => exact .inl ⟨rfl, rfl⟩
  | cons c l ih =>
    by_cases h : c = e
    · subst h
      exact .inr ⟨0, by simp [Lib.indexByte], by simp⟩
    · have hb : (c == e) = false := by simpa using h
      rcases ih with ⟨i1, i2⟩ | ⟨k, i1, i2⟩
      · left
        refine ⟨?_, by rw [List.any_cons, hb, i2]; rfl⟩
        rw [Lib.indexByte, hb, i1]; simp
      · right
        refine ⟨k + 1, ?_, by rw [List.any_cons, hb, i2]; rfl⟩
        rw [Lib.indexByte, hb, i1]
        have : ((k : Int) == -1) = false := by simp
        simp [this]
theorem index_any (e : UInt8) (l : List UInt8) : decide ((0 : Int) ≤ Lib.indexByte l e) = l.any (· == e) := by
  rcases index_cases e l with ⟨h1, h2⟩ | ⟨k, h1, h2⟩
  · rw [h1, h2]; rfl
  · rw [h1, h2]; simp
theorem some1_at (ch : ByteArray) (c : UInt8) (B : Nat) (b : Bool) (hb : ch.data.toList.any (· == c) = b) (w : World) (hB : w.cell? ⟨B, 0, none⟩ = some (.string ch)) :
    Calls Tryd.prog 35 #[.int .u8 c.toNat, .pointer (some ⟨B, 0, none⟩)] w fun e w' => e = .returned (.bool b) ∧ w = w' := by
  have HX := Lib.hid (show decide ((0 : Int) ≤ Lib.indexByte ch.data.toList ((c.toNat : Int)).toNat.toUInt8) = b by
    rw [← hb, ← index_any]
    simp)
  obtain ⟨k, hk⟩ : ∃ k, Lib.indexByte ch.data.toList ((c.toNat : Int)).toNat.toUInt8 = k := ⟨_, rfl⟩
  have HI := Lib.hid (Tryd.strings_IndexByte ch c.toNat w)
  rw [hk] at HX HI
  clear hk hb
  go_enter Tryd.func35, Tryd.ntmps35
  go_wp2_with fail
  refine HI.out.mono ?_
  rintro e w1 ⟨rfl, rfl⟩
  go_wp2_with fail
  go_ret
  exact ⟨ret_bool HX.out, rfl⟩
def anyIn (ch s : ByteArray) : Bool := s.data.toList.any fun c => ch.data.toList.any (· == c)
set_option maxHeartbeats 2000000 in
theorem idxB_any (ch s : ByteArray) (B D cap : Nat) (w : World) (hs : s.size ≤ 1048576) (hB : w.cell? ⟨B, 0, none⟩ = some (.string ch)) (hD : ∀ (j : Nat) (h : j < s.size), w.cell? ⟨D, j, none⟩ = some (.int .u8 s[j].toNat)) :
    Calls Tryd.prog 46 #[.slice (some ⟨D, 0, none⟩) s.size cap, .func (.func 35) #[] #[.pointer (some ⟨B, 0, none⟩)]] w fun e w' => ∃ k : Int, e = .returned (intV k) ∧ decide (0 ≤ k) = anyIn ch s ∧ w = w' := by
  have hce := Tryd.call35
  have HB := Lib.hid hB
  have HD := Lib.hid hD
  clear hB hD
  go_enter Tryd.func46, Tryd.ntmps46
  go_wp2
  go_loopw [8] (fun i wr => ∃ j : Nat, j ≤ s.size ∧ i = .int .i64 j ∧ Hid (∀ (m : Nat) (h : m < s.size), m < j → ch.data.toList.any (· == s[m]) = false) ∧ w = wr) (fun i _ => s.size - (intOf i).toNat)
  case atStart => exact ⟨0, Nat.zero_le _, rfl, Lib.hid (fun m h h2 => by omega), by trivial⟩
  case round =>
    obtain ⟨j, hj, rfl, HA, rfl⟩ := hrel
    by_cases hlt : j < s.size
    · have hcell := HD.out j hlt
      obtain ⟨b, hb⟩ : ∃ b, ch.data.toList.any (· == s[j]) = b := ⟨_, rfl⟩
      have HS := Lib.hid (some1_at ch s[j] B b hb w HB.out)
      have HBE := Lib.hid hb
      clear hb
      go_wp2_with fail
      refine HS.out.mono ?_
      rintro e w2 ⟨rfl, rfl⟩
      cases b with
      | true =>
        go_wp2_with fail
        go_ret
        refine ⟨j, rfl, ?_, by trivial⟩
        have : anyIn ch s = true := by
          rw [anyIn, List.any_eq_true]
          exact ⟨s[j], by rw [← ba_get s j hlt]; exact List.getElem_mem _, HBE.out⟩
        rw [this]
        exact decide_eq_true (by omega)
      | false =>
        go_wp2_with fail
        refine ⟨⟨j + 1, by omega, by go_num, Lib.hid (fun m h h2 => ?_), by trivial⟩, by simp [intOf]; omega⟩
        rcases Nat.lt_or_ge m j with h3 | h3
        · exact HA.out m h h3
        · obtain rfl : m = j := by omega
          exact HBE.out
    · go_wp2_with fail
      go_ret
      refine ⟨-1, rfl, ?_, by trivial⟩
      have : anyIn ch s = false := by
        rw [anyIn, Bool.eq_false_iff, ne_eq, List.any_eq_true]
        rintro ⟨c, hm, hc⟩
        obtain ⟨m, hm', rfl⟩ := List.getElem_of_mem hm
        have hms : m < s.size := by rw [size_list] at hm'; exact hm'
        rw [ba_get s m hms, HA.out m hms (by omega)] at hc
        cases hc
      rw [this]
      rfl
theorem contB_any (ch s : ByteArray) (B D cap : Nat) (w : World) (hs : s.size ≤ 1048576) (hB : w.cell? ⟨B, 0, none⟩ = some (.string ch)) (hD : ∀ (j : Nat) (h : j < s.size), w.cell? ⟨D, j, none⟩ = some (.int .u8 s[j].toNat)) (r : Bool) (hr : anyIn ch s = r) :
    Calls Tryd.prog 34 #[.slice (some ⟨D, 0, none⟩) s.size cap, .func (.func 35) #[] #[.pointer (some ⟨B, 0, none⟩)]] w fun e w' => e = .returned (.bool r) ∧ w = w' := by
  have HI := Lib.hid (idxB_any ch s B D cap w hs hB hD)
  have HR := Lib.hid hr
  clear hB hD hr
  go_enter Tryd.func34, Tryd.ntmps34
  go_wp2_with fail
  refine HI.out.mono ?_
  rintro e w1 ⟨k, rfl, hk, rfl⟩
  have HK := Lib.hid hk
  clear hk
  go_wp2_with fail
  go_ret
  exact ⟨ret_bool (HK.out.trans HR.out), rfl⟩
/-! ### []byte(s) -/
def convW (W : World) (s : ByteArray) : World := W.drew.alloc (.cells (bytesRow s (grownCap W s.size 0 5)) 5 ((bytesRow s (grownCap W s.size 0 5)).size, (bytesRow s (grownCap W s.size 0 5)).size + 1))
theorem conv_run (W : World) (s : ByteArray) : (convert 9 54 (.string s)).run Tryd.prog W = .ok (.slice (some ⟨W.heap.size, 0, none⟩) s.size (grownCap W s.size 0 5)) (convW W s) :=
  run_bytes_of_string (P := Tryd.prog) W 9 54 5 s Tryd.underlying9 Tryd.underlying54 Tryd.underlying5
theorem conv_below (W : World) (s : ByteArray) : Below W.heap.size W (convW W s) := (Below.refl _ _).drew.alloc (Nat.le_refl _) _
theorem conv_at (W : World) (s : ByteArray) (j : Nat) (h : j < s.size) : (convW W s).cell? ⟨W.heap.size, j, none⟩ = some (.int .u8 s[j].toNat) := by
  have hj' : j < s.data.size := h
  have := World.cell?_alloc_mark W.drew (bytesRow s (grownCap W s.size 0 5)) 5 ((bytesRow s (grownCap W s.size 0 5)).size, (bytesRow s (grownCap W s.size 0 5)).size + 1) j
  rw [show W.drew.heap.size = W.heap.size from rfl] at this
  rw [convW, this, bytesRow_at s _ j hj']
  rfl
set_option maxHeartbeats 1000000 in
theorem some_at (s ch : ByteArray) (hs : s.size ≤ 1048576) (r : Bool) (hr : anyIn ch s = r) (w : World) :
    Calls Tryd.prog 21 #[.string s, .string ch] w fun e w' => e = .returned (.bool r) ∧ Below w.heap.size w w' := by
  have hrun := conv_run
  obtain ⟨w1, hw1⟩ : ∃ X, w.alloc (.cells #[.string ch] 9) = X := ⟨_, rfl⟩
  have hb1 : Below w.heap.size w w1 := by rw [← hw1]; exact below_box0 w _
  have hs1 : w1.heap.size = w.heap.size + 1 := by rw [← hw1]; simp
  have hc1 : w1.cell? ⟨w.heap.size, 0, none⟩ = some (.string ch) := by rw [← hw1]; simp
  have hb2 := conv_below w1 s
  have hc2 : (convW w1 s).cell? ⟨w.heap.size, 0, none⟩ = some (.string ch) := (hb2.cell (p := ⟨w.heap.size, 0, none⟩) (show w.heap.size < w1.heap.size by omega)).trans hc1
  have HC := Lib.hid (contB_any ch s w.heap.size w1.heap.size (grownCap w1 s.size 0 5) (convW w1 s) hs hc2 (fun j h => conv_at w1 s j h) r hr)
  have HB := Lib.hid (below_seq hb1 hb2 hb1.size)
  have HW := Lib.hid hw1
  clear hb1 hs1 hc1 hb2 hc2 hw1 hr
  go_enter Tryd.func21, Tryd.ntmps21
  go_upto_region 1 with fail
  rw [HW.out]
  go_wp2_with fail
  refine HC.out.mono ?_
  rintro e w2 ⟨rfl, rfl⟩
  clear hrun
  go_wp2_with fail
  go_ret
  exact ⟨rfl, HB.out⟩
end Go.Proofs.YtdgihkgomfpmoaaDoor
