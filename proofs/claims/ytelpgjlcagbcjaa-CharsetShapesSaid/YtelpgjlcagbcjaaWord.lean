/- charset.IsWord, over every string. -/
import Derived.Test.YtelpgjlcagbcjaaCheck
namespace Go.Proofs.Ytelpgjlcagbcjaa
set_option linter.unusedSimpArgs false
set_option linter.unusedVariables false
open Go.RowKit Go.Shelf
attribute [local go_sem] Oper.semAt_some wide_fn

def okW (c : UInt8) (f : Bool) : Bool := decide (kd c = 1) || decide (kd c = 3) || decide (kd c = 4) || (decide (kd c = 2) && f)
def badW (p : UInt8 × ByteArray) : Bool := !okW p.1 (qflag p)
def headLd : List UInt8 → Bool
  | [] => false
  | c :: _ => ldI c.toNat
def allW (l : List UInt8) : Bool := !((l.zip (flags l)).any fun x => !okW x.1 x.2)
theorem allW_prs (l : List UInt8) : allW l = !((prs l).any badW) := by
  unfold allW
  have := any_map_zip Prod.fst pflag (fun c f => !okW c f) (pairs l)
  rw [pairs_fst, pairs_flag] at this
  rw [this, prs, List.any_map]; rfl
/-- IsWord's result -/
def wordB (l : List UInt8) : Bool := decide (0 < l.length) && decide (l.length ≤ 64) && headLd l && allW l

theorem sz_ne {s : ByteArray} (h : 0 < s.size) : ((s.size : Int) == 0) = false := by
  simp only [beq_eq_false_iff_ne, ne_eq]; omega
theorem headLd_eq {s : ByteArray} (h0 : 0 < s.size) : headLd s.data.toList = ldI s[0].toNat := by
  have e := drop_at s 0 h0
  rw [List.drop_zero] at e
  rw [e]; rfl

set_option maxHeartbeats 400000 in
theorem word_no (s : ByteArray) (h : s.size = 0 ∨ 64 < s.size) (w : World) :
    Calls Try.prog 16 #[.string s] w fun e w' => e = .returned (.bool (wordB s.data.toList)) ∧ Below w.heap.size w w' := by
  have hr : wordB s.data.toList = false := by
    unfold wordB; rw [size_list]
    rcases h with h | h
    · simp [h]
    · have : ¬ s.size ≤ 64 := by omega
      simp [this]
  rw [hr]
  clear hr
  go_enter Try.func16, Try.ntmps16
  rcases h with h | h
  · have h' : ((s.size : Int) == 0) = true := by simp [h]
    have H := Lib.hid h
    clear h
    go_wp2
    exact bodyPost_ret (v := .bool false) (by simp [results, Try.results16, go_sem]) rfl ⟨rfl, (Below.refl _ _).alloc (Nat.le_refl _) _⟩
  · have h' := sz_ne (s := s) (by omega)
    go_wp2
    exact bodyPost_ret (v := .bool false) (by simp [results, Try.results16, go_sem]) rfl ⟨rfl, (Below.refl _ _).alloc (Nat.le_refl _) _⟩

set_option maxHeartbeats 400000 in
theorem word_head (s : ByteArray) (h0 : 0 < s.size) (h : s.size ≤ 64) (hh : ldI s[0].toNat = false) (w : World) :
    Calls Try.prog 16 #[.string s] w fun e w' => e = .returned (.bool (wordB s.data.toList)) ∧ Below w.heap.size w w' := by
  have hr : wordB s.data.toList = false := by
    unfold wordB; rw [headLd_eq h0, hh]; simp
  rw [hr]
  clear hr
  have h' := sz_ne (s := s) (by omega)
  have H := Lib.hid hh
  clear hh
  go_enter Try.func16, Try.ntmps16
  go_wp2_with (go_at_call 40; refine (ld_any _ _).mono ?_; rw [H.out]; rintro e w' ⟨rfl, rfl⟩)
  exact bodyPost_ret (v := .bool false) (by simp [results, Try.results16, go_sem]) rfl ⟨rfl, (Below.refl _ _).alloc (Nat.le_refl _) _⟩

theorem any_snoc {α : Type} {p : α → Bool} {a : List α} {x : α} (h : a.any p = false) (hx : p x = false) : (a ++ [x]).any p = false := by
  rw [List.any_append, h]; simp [hx]
theorem any_snoc' {α : Type} {p : α → Bool} {a : List α} {x : α} (hx : p x = true) : (a ++ [x]).any p = true := by
  rw [List.any_append]; simp [hx]
section
variable {x : UInt8 × ByteArray}
theorem bw1 (h : (kindI x.1.toNat == 1) = true) : badW x = false := by
  have h' := of_beq h; simp [badW, okW, kd, h']
theorem bw3 (h : (kindI x.1.toNat == 3) = true) : badW x = false := by
  have h' := of_beq h; simp [badW, okW, kd, h']
theorem bw4 (h : (kindI x.1.toNat == 4) = true) : badW x = false := by
  have h' := of_beq h; simp [badW, okW, kd, h']
theorem bw2 (h : (kindI x.1.toNat == 2) = true) (hf : (!decide (kindI x.1.toNat = 2)) = false ∧ (!decide (1 < x.2.size)) = false) : badW x = false := by
  have h' := of_beq h
  have h2 : 1 < x.2.size := by simpa using hf.2
  simp [badW, okW, qflag, kd, h', h2]
theorem bw2n (h : (kindI x.1.toNat == 2) = true) (hf : (!decide (kindI x.1.toNat = 2)) = true ∨ (!decide (1 < x.2.size)) = true) : badW x = true := by
  have h' := of_beq h
  have h2 : ¬ 1 < x.2.size := by simpa [h'] using hf
  simp [badW, okW, qflag, kd, h', h2]
theorem bw0 (h1 : (kindI x.1.toNat == 1) = false) (h3 : (kindI x.1.toNat == 3) = false) (h4 : (kindI x.1.toNat == 4) = false) (h2 : (kindI x.1.toNat == 2) = false) : badW x = true := by
  have a := ne_of_beq h1
  have b := ne_of_beq h3
  have c := ne_of_beq h4
  have d := ne_of_beq h2
  simp [badW, okW, kd, a, b, c, d]
end

set_option maxRecDepth 100000 in
set_option maxHeartbeats 2000000 in
theorem word_yes (s : ByteArray) (h0 : 0 < s.size) (h : s.size ≤ 64) (hh : ldI s[0].toNat = true) (w : World) :
    Calls Try.prog 16 #[.string s] w fun e w' => e = .returned (.bool (wordB s.data.toList)) ∧ Below w.heap.size w w' := by
  have hr : wordB s.data.toList = !((prs s.data.toList).any badW) := by
    unfold wordB; rw [headLd_eq h0, hh, allW_prs, size_list]; simp [h0, h]
  rw [hr]
  clear hr
  have h' := sz_ne (s := s) (by omega)
  have H := Lib.hid hh
  clear hh
  refine (callsIn_wide (n := 9)).1 ?_
  refine callsIn_of_wp_marks Try.func16 rfl trivial ?_ rfl
  simp only [Try.ntmps16, List.size_toArray, List.length_cons, List.length_nil, Nat.reduceAdd, Nat.reduceSub, Array.replicate_succ, Array.replicate_zero, List.push_toArray, List.append_toArray, List.nil_append, List.cons_append]
  gi_wp2_with (first
    | (exfalso; rename_i hh _; cases hh; done)
    | (gi_at_call 40; refine (callsIn_wide.2 (ld_any _ _)).mono ?_; rw [H.out]; rintro e w' ⟨rfl, rfl⟩)
    | (gi_at_call 37; refine (callsIn_wide.2 (chars_in s _)).mono ?_; rintro e w' ⟨rfl, rfl⟩))
  have bN := Boxed.new (w.alloc (.cells #[.bool false] 4)) 9 (.string s)
  rw [World.size_alloc] at bN
  have hs : s.size ≤ maxLen := by unfold maxLen; omega
  refine wpIn_rangeFunc_ownG rfl (by omega) (gf := 53) (lb := #[.pointer (some ⟨w.heap.size + 1, 0, none⟩)]) rfl trivial (enters_of Try.func53 (by kernel_rfl) rfl)
    (chars_stops (w.heap.size + 1) w.heap.size s hs _ (by simp) bN.cell) belowK_t (belowK_b (by simp; omega)) (Below.refl _ _) (fun _ => rfl)
    (fun pre W => (Boxed W w.heap.size 4 (.bool false) ∧ pre.any badW = false) ∧ Below w.heap.size w W)
    (fun c pre W => (Boxed W w.heap.size 4 (.bool false) ∧ c = .ret ∧ pre.any badW = true) ∧ Below w.heap.size w W)
    (OwnFrom.and (OwnFrom.and (Own.from (boxed_own _ _ _) _) (ownFrom_pure _ _)) (ownFrom_below (Nat.le_refl _) (by simp; omega)))
    (fun c => OwnFrom.and (OwnFrom.and (Own.from (boxed_own _ _ _) _) (ownFrom_pure _ _)) (ownFrom_below (Nat.le_refl _) (by simp; omega)))
    ⟨⟨(Boxed.new _ _ _).alloc _, rfl⟩, ((Below.refl _ _).alloc (Nat.le_refl _) _).alloc (by simp) _⟩
    (fun x => { tmps := #[.string s, undef, .pointer (some ⟨w.heap.size, 0, none⟩), .int .u8 x.1.toNat, .string x.2, .string s, .int .i64 s.size, .bool false, .bool false, .string s, .int .i64 s.size, .bool (decide (64 < (s.size : Int))), .bool (decide (64 < (s.size : Int))), .bool (decide (64 < (s.size : Int))), .string s, .int .u8 s[0].toNat, .bool true, .bool false, .bool (decide (64 < (s.size : Int))), .string s, .func (.func 53) #[] #[.pointer (some ⟨w.heap.size + 1, 0, none⟩)], .int .u8 x.1.toNat, .string x.2, undef, undef, undef, undef, undef, undef, undef, undef, undef, undef, undef, undef], defers := [] }) ?assign ?body ?done ?stop
  case assign =>
    intro l x W K hK
    gi_wp2
    exact hK
  case body =>
    rintro l pre x W ⟨⟨hb, hn⟩, hB⟩ hlt
    have hc := hb.cell
    have hf := hb.frozen
    have HN := Lib.hid hn
    clear hn
    gi_wp2_with (first
      | (exfalso; rename_i hh _; cases hh; done)
      | (gi_at_call 12; refine (CallsIn.inRound l (callsIn_wide.2 (kind_any _ _))).mono ?_; rintro e w' ⟨rfl, rfl⟩)
      | (gi_at_call 38; refine (CallsIn.inRound l (callsIn_wide.2 (stands_any _ _ _))).mono ?_; rintro e w' ⟨rfl, rfl⟩))
    · exact ⟨KeepsFrom.refl _ _, Below.refl _ _, ⟨hb, any_snoc HN.out (bw1 (by assumption))⟩, hB⟩
    · exact ⟨KeepsFrom.refl _ _, Below.refl _ _, ⟨hb, any_snoc HN.out (bw3 (by assumption))⟩, hB⟩
    · exact ⟨KeepsFrom.refl _ _, Below.refl _ _, ⟨hb, any_snoc HN.out (bw4 (by assumption))⟩, hB⟩
    · exact ⟨(KeepsOthers.setCell _ _ _).from _, ⟨hb.set _, rfl, any_snoc' (bw2n (by assumption) (by assumption))⟩, hB.setCell (p := ⟨w.heap.size, 0, none⟩) (Nat.le_refl _) _⟩
    · exact ⟨KeepsFrom.refl _ _, Below.refl _ _, ⟨hb, any_snoc HN.out (bw2 (by assumption) (by assumption))⟩, hB⟩
    · exact ⟨(KeepsOthers.setCell _ _ _).from _, ⟨hb.set _, rfl, any_snoc' (bw0 (by assumption) (by assumption) (by assumption) (by assumption))⟩, hB.setCell (p := ⟨w.heap.size, 0, none⟩) (Nat.le_refl _) _⟩
  case done =>
    rintro D xs W hD rfl ⟨⟨hb, hn⟩, hB⟩ hK
    have hc := hb.cell
    have hf := hb.frozen
    have HN := Lib.hid hn
    clear hn
    gi_wp2
    have hb' := hb.set (.bool true)
    have hK' := fin_store (B := w.heap.size) (.bool true) hK
    have hc5 := fin_cell hb' hK'
    refine ⟨by simp, .inl ⟨_, _, rfl, run_takeDeferred hK', ?_⟩⟩
    exact ⟨.bool true, by simp [results, Try.f16, go_sem, hc5], ret_bool (by rw [HN.out]; rfl), fin_below (hB.setCell (p := ⟨w.heap.size, 0, none⟩) (Nat.le_refl _) _) (by simp; omega) hD hK'⟩
  case stop =>
    rintro D c pre W hD hpre ⟨⟨hb, rfl, hn⟩, hB⟩ hK
    have HN := Lib.hid hn
    clear hn
    gi_wp2
    have hc5 := fin_cell hb hK
    refine ⟨by simp, .inl ⟨_, _, rfl, run_takeDeferred hK, ?_⟩⟩
    exact ⟨.bool false, by simp [results, Try.f16, go_sem, hc5], ret_bool (by rw [any_of_prefix hpre HN.out]; rfl), fin_below hB (by simp; omega) hD hK⟩

theorem word_any (s : ByteArray) (w : World) :
    Calls Try.prog 16 #[.string s] w fun e w' => e = .returned (.bool (wordB s.data.toList)) ∧ Below w.heap.size w w' := by
  by_cases h : s.size = 0 ∨ 64 < s.size
  · exact word_no s h w
  · have h0 : 0 < s.size := by omega
    by_cases hh : ldI s[0].toNat = true
    · exact word_yes s h0 (by omega) hh w
    · exact word_head s h0 (by omega) (by simpa using hh) w
end Go.Proofs.Ytelpgjlcagbcjaa
