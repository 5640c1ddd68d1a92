/- charset.Check, over every string. -/
import Derived.Test.YtelpgjlcagbcjaaIter
namespace Go.Proofs.Ytelpgjlcagbcjaa
set_option linter.unusedSimpArgs false
set_option linter.unusedVariables false
open Go.RowKit Go.Shelf
attribute [local go_sem] Oper.semAt_some wide_fn

/-- the pair's byte is not accepted -/
def qflag (p : UInt8 × ByteArray) : Bool := decide (kd p.1 = 2) && decide (1 < p.2.size)
def badQ (p : UInt8 × ByteArray) : Bool := badB p.1 (qflag p)
theorem prs_bad (l : List UInt8) : (prs l).any badQ = (pairs l).any badP := by
  unfold prs
  rw [List.any_map]
  congr 1

theorem acc_prs (l : List UInt8) : accB l = !((prs l).any badQ) := by rw [accB_pairs, prs_bad]
theorem chk_small {s : ByteArray} (h : ¬ 65536 < s.size) : chk s.data.toList = if accB s.data.toList then 0 else 11 := by
  rw [chk, if_neg (by rw [size_list]; exact h)]
theorem any_of_prefix {α : Type} {p : α → Bool} {a b : List α} (h : a <+: b) (ha : a.any p = true) : b.any p = true := by
  obtain ⟨t, rfl⟩ := h
  rw [List.any_append, ha]; rfl

set_option maxHeartbeats 400000 in
theorem check_big (s : ByteArray) (h : 65536 < s.size) (hs : s.size ≤ maxLen) (w : World) :
    Calls Try.prog 14 #[.string s] w fun e w' => e = .returned (.int .i64 (chk s.data.toList)) ∧ Below w.heap.size w w' := by
  unfold maxLen at hs
  go_enter Try.func14, Try.ntmps14
  go_wp2
  refine bodyPost_ret (v := .int .i64 4) (by simp [results, Try.results14, go_sem]) rfl ⟨ret_int ?_, ?_⟩
  · rw [chk, if_pos (by rw [size_list]; exact h)]
  · exact (Below.refl _ _).alloc (Nat.le_refl _) _

set_option maxRecDepth 100000 in
set_option maxHeartbeats 2000000 in
theorem check_small (s : ByteArray) (h : ¬ 65536 < s.size) (w : World) :
    Calls Try.prog 14 #[.string s] w fun e w' => e = .returned (.int .i64 (chk s.data.toList)) ∧ Below w.heap.size w w' := by
  refine (callsIn_wide (n := 9)).1 ?_
  refine callsIn_of_wp_marks Try.func14 rfl trivial ?_ rfl
  simp only [Try.ntmps14, List.size_toArray, List.length_cons, List.length_nil, Nat.reduceAdd, Nat.reduceSub, Array.replicate_succ, Array.replicate_zero, List.push_toArray, List.append_toArray, List.nil_append, List.cons_append]
  gi_wp2_with (gi_at_call 37; refine (callsIn_wide.2 (chars_in s _)).mono ?_; rintro e w' ⟨rfl, rfl⟩)
  have bN := Boxed.new (w.alloc (.cells #[.int .i64 0] 25)) 9 (.string s)
  rw [World.size_alloc] at bN
  have hs : s.size ≤ maxLen := by unfold maxLen; omega
  refine wpIn_rangeFunc_ownG rfl (by omega) (gf := 53) (lb := #[.pointer (some ⟨w.heap.size + 1, 0, none⟩)]) rfl trivial (enters_of Try.func53 (by kernel_rfl) rfl)
    (chars_stops (w.heap.size + 1) w.heap.size s hs _ (by simp) bN.cell) belowK_t (belowK_b (by simp; omega)) (Below.refl _ _) (fun _ => rfl)
    (fun pre W => (Boxed W w.heap.size 25 (.int .i64 0) ∧ pre.any badQ = false) ∧ Below w.heap.size w W)
    (fun c pre W => (Boxed W w.heap.size 25 (.int .i64 11) ∧ c = .ret ∧ pre.any badQ = true) ∧ Below w.heap.size w W)
    (OwnFrom.and (OwnFrom.and (Own.from (boxed_own _ _ _) _) (ownFrom_pure _ _)) (ownFrom_below (Nat.le_refl _) (by simp; omega)))
    (fun c => OwnFrom.and (OwnFrom.and (Own.from (boxed_own _ _ _) _) (ownFrom_pure _ _)) (ownFrom_below (Nat.le_refl _) (by simp; omega)))
    ⟨⟨(Boxed.new _ _ _).alloc _, rfl⟩, ((Below.refl _ _).alloc (Nat.le_refl _) _).alloc (by simp) _⟩
    (fun x => { tmps := #[.string s, undef, .pointer (some ⟨w.heap.size, 0, none⟩), .int .u8 x.1.toNat, .string x.2, .string s, .int .i64 s.size, .bool (decide (65536 < (s.size : Int))), .string s, .func (.func 53) #[] #[.pointer (some ⟨w.heap.size + 1, 0, none⟩)], .int .u8 x.1.toNat, .string x.2, undef, undef, undef, undef, undef, undef, undef, undef, undef, undef, undef, undef, undef, undef], defers := [] }) ?assign ?body ?done ?stop
  case assign =>
    intro l x W K hK
    gi_wp2
    exact hK
  case body =>
    rintro l pre x W ⟨⟨hb, hn⟩, hB⟩ hlt
    have hc := hb.cell
    have hf := hb.frozen
    have HN := Lib.hid hn
    clear hn
    gi_wp2_with (first
      | (exfalso; rename_i hh _; cases hh; done)
      | (gi_at_call 12; refine (CallsIn.inRound l (callsIn_wide.2 (kind_any _ _))).mono ?_; rintro e w' ⟨rfl, rfl⟩)
      | (gi_at_call 38; refine (CallsIn.inRound l (callsIn_wide.2 (stands_any _ _ _))).mono ?_; rintro e w' ⟨rfl, rfl⟩))
    · have hz : kindI x.1.toNat = 0 := by assumption
      refine ⟨(KeepsOthers.setCell _ _ _).from _, ⟨hb.set _, rfl, ?_⟩, hB.setCell (p := ⟨w.heap.size, 0, none⟩) (Nat.le_refl _) _⟩
      rw [List.any_append, HN.out]; simp [badQ, badB, kd, hz]
    · rename_i h0 h2 hf2
      refine ⟨(KeepsOthers.setCell _ _ _).from _, ⟨hb.set _, rfl, ?_⟩, hB.setCell (p := ⟨w.heap.size, 0, none⟩) (Nat.le_refl _) _⟩
      have h3 : ¬ 1 < x.2.size := by simpa using hf2
      rw [List.any_append, HN.out]; simp [badQ, badB, qflag, kd, h2, h3]
    · rename_i h0 h2 hf2
      refine ⟨KeepsFrom.refl _ _, Below.refl _ _, ⟨hb, ?_⟩, hB⟩
      have h3 : 1 < x.2.size := by simpa using hf2
      rw [List.any_append, HN.out]; simp [badQ, badB, qflag, kd, h2, h3]
    · have h0 : ¬ kindI x.1.toNat = 0 := by assumption
      have h2 : ¬ kindI x.1.toNat = 2 := by assumption
      refine ⟨KeepsFrom.refl _ _, Below.refl _ _, ⟨hb, ?_⟩, hB⟩
      rw [List.any_append, HN.out]; simp [badQ, badB, kd, h0, h2]
  case done =>
    rintro D xs W hD rfl ⟨⟨hb, hn⟩, hB⟩ hK
    have hc := hb.cell
    have hf := hb.frozen
    have HN := Lib.hid hn
    clear hn
    gi_wp2
    have hb' := hb.set (.int .i64 0)
    have hK' := fin_store (B := w.heap.size) (.int .i64 0) hK
    have hc5 := fin_cell hb' hK'
    refine ⟨by simp, .inl ⟨_, _, rfl, run_takeDeferred hK', ?_⟩⟩
    refine ⟨.int .i64 0, by simp [results, Try.f14, go_sem, hc5], ret_int ?_, fin_below (hB.setCell (p := ⟨w.heap.size, 0, none⟩) (Nat.le_refl _) _) (by simp; omega) hD hK'⟩
    rw [chk_small h, if_pos (by rw [acc_prs, HN.out]; rfl)]
  case stop =>
    rintro D c pre W hD hpre ⟨⟨hb, rfl, hn⟩, hB⟩ hK
    have HN := Lib.hid hn
    clear hn
    gi_wp2
    have hc5 := fin_cell hb hK
    refine ⟨by simp, .inl ⟨_, _, rfl, run_takeDeferred hK, ?_⟩⟩
    refine ⟨.int .i64 11, by simp [results, Try.f14, go_sem, hc5], ret_int ?_, fin_below hB (by simp; omega) hD hK⟩
    rw [chk_small h, if_neg (by rw [acc_prs, any_of_prefix hpre HN.out]; simp)]

theorem check_any (s : ByteArray) (hs : s.size ≤ maxLen) (w : World) :
    Calls Try.prog 14 #[.string s] w fun e w' => e = .returned (.int .i64 (chk s.data.toList)) ∧ Below w.heap.size w w' := by
  by_cases h : 65536 < s.size
  · exact check_big s h hs w
  · exact check_small s h w
end Go.Proofs.Ytelpgjlcagbcjaa
