/- charset.Clusters, over every string. -/
import Derived.Test.YtelpgjlcagbcjaaBytes
import Derived.Maps.AppendAt
namespace Go.Proofs.Ytelpgjlcagbcjaa
set_option linter.unusedSimpArgs false
set_option linter.unusedVariables false
open Go.RowKit Go.Shelf
attribute [local go_sem] Oper.semAt_some wide_fn

abbrev strV (l : List UInt8) : Value := .string ⟨l.toArray⟩
theorem info_str : (Try.prog.info? 9).map (fun i => (i.zero, i.size, i.bytes)) = some (some (.string ⟨#[]⟩), 1, 16) := by kernel_rfl

/-- what a part of the pairs has made of the clusters -/
def grow (pre : List (UInt8 × ByteArray)) : List ByteArray := (pre.filter fun p => !qflag p).map Prod.snd
theorem grow_hit {pre : List (UInt8 × ByteArray)} {x : UInt8 × ByteArray} (h : qflag x = false) : grow (pre ++ [x]) = grow pre ++ [x.2] := by simp [grow, h]
theorem grow_miss {pre : List (UInt8 × ByteArray)} {x : UInt8 × ByteArray} (h : qflag x = true) : grow (pre ++ [x]) = grow pre := by simp [grow, h]
theorem grow_le (pre : List (UInt8 × ByteArray)) : (grow pre).length ≤ pre.length := by
  rw [grow, List.length_map]; exact List.length_filter_le _ _
theorem filter_of_flags {α : Type} (f : α → Bool) : ∀ (l : List α) (n : Nat), l.map f = false :: List.replicate n true → (l.filter fun x => !f x) = l.take 1
  | [], _, h => by simp at h
  | a :: t, n, h => by
    simp only [List.map_cons, List.cons.injEq] at h
    have ht : (t.filter fun x => !f x) = [] := by
      rw [List.filter_eq_nil_iff]
      intro x hx
      have : f x ∈ t.map f := List.mem_map_of_mem hx
      rw [h.2] at this
      simp [(List.mem_replicate.1 this).2]
    simp [List.filter_cons, h.1, ht]
theorem clus_of_pairs : ∀ (n : Nat) (l : List UInt8), l.length ≤ n → ((pairs l).filter fun p => !pflag p).map Prod.snd = clus l
  | 0, l, h => by
    have : l = [] := List.length_eq_zero_iff.1 (by omega)
    subst this; rfl
  | n + 1, l, h => by
    by_cases hl : l = []
    · subst hl; rfl
    · have hp := fcl_pos hl
      have ih := clus_of_pairs n (l.drop (fcl l)) (by rw [List.length_drop]; omega)
      have hle := fcl_le l
      rw [pairs_step hl, clus_step hl, List.filter_append, List.map_append, ih, filter_of_flags _ _ _ (pflag_first hl)]
      have hne : (l.take (fcl l)) ≠ [] := by
        intro e
        have := congrArg List.length e
        rw [List.length_take] at this
        simp only [List.length_nil] at this
        omega
      obtain ⟨c, t, ht⟩ := List.exists_cons_of_ne_nil hne
      rw [ht]; rfl
theorem grow_all (l : List UInt8) : grow (prs l) = (clus l).map fun c => ⟨c.toArray⟩ := by
  rw [← clus_of_pairs _ l (Nat.le_refl _), grow, prs, List.filter_map, List.map_map, List.map_map]
  rfl

theorem qflag_no {x : UInt8 × ByteArray} (h : (!decide (kindI x.1.toNat = 2)) = true ∨ (!decide (1 < x.2.size)) = true) : qflag x = false := by
  rw [qflag, kd]
  rcases h with h | h
  · rw [show decide (kindI x.1.toNat = 2) = false by simpa using h]; rfl
  · rw [show decide (1 < x.2.size) = false by simpa using h]; exact Bool.and_false _
theorem qflag_yes {x : UInt8 × ByteArray} (h : (!decide (kindI x.1.toNat = 2)) = false ∧ (!decide (1 < x.2.size)) = false) : qflag x = true := by
  rw [qflag, kd, show decide (kindI x.1.toNat = 2) = true by simpa using h.1, show decide (1 < x.2.size) = true by simpa using h.2]; rfl

set_option maxRecDepth 100000 in
set_option maxHeartbeats 2000000 in
theorem clusters_any (s : ByteArray) (hs : s.size * 16 ≤ 140737488351232) (w : World) :
    Calls Try.prog 27 #[.string s] w fun e w' => ∃ v, e = .returned v ∧ w'.ownsRow w.heap.size 9 1 v (clus s.data.toList).length ((clus s.data.toList).map strV) ∧ Below w.heap.size w w' := by
  obtain ⟨i0, hi, hz0, hz1, hz2⟩ := info_parts info_str
  refine (callsIn_wide (n := 9)).1 ?_
  refine callsIn_of_wp_marks Try.func27 rfl trivial ?_ rfl
  simp only [Try.ntmps27, List.size_toArray, List.length_cons, List.length_nil, Nat.reduceAdd, Nat.reduceSub, Array.replicate_succ, Array.replicate_zero, List.push_toArray, List.append_toArray, List.nil_append, List.cons_append]
  gi_wp2_with (gi_at_call 37; refine (callsIn_wide.2 (chars_in s _)).mono ?_; rintro e w' ⟨rfl, rfl⟩)
  have bO := Boxed.new w 31 (.slice none 0 0)
  have bN := Boxed.new (w.alloc (.cells #[.slice none 0 0] 31)) 9 (.string s)
  rw [World.size_alloc] at bN
  have hsm : s.size ≤ maxLen := by unfold maxLen; omega
  have hB0 : Below w.heap.size w ((w.alloc (.cells #[.slice none 0 0] 31)).alloc (.cells #[.string s] 9)) := ((Below.refl _ w).alloc (Nat.le_refl _) _).alloc (by simp) _
  refine wpIn_rangeFunc_ownG rfl (by omega) (gf := 53) (lb := #[.pointer (some ⟨w.heap.size + 1, 0, none⟩)]) rfl trivial (enters_of Try.func53 (by kernel_rfl) rfl)
    (chars_stops (w.heap.size + 1) w.heap.size s hsm _ (by simp) bN.cell) belowK_t (belowK_b (by simp; omega)) (Below.refl _ _) (fun _ => rfl)
    (fun pre W => (∃ v, Boxed W w.heap.size 31 v ∧ W.ownsRow w.heap.size 9 1 v (grow pre).length ((grow pre).map Value.string) ∧ True) ∧ Below w.heap.size w W)
    (fun _ _ _ => False)
    (OwnFrom.and (Own.from (holdsRow_own w.heap.size w.heap.size 31 9 1 (fun pre => (grow pre).length) (fun pre => (grow pre).map Value.string) (fun _ _ => True)) _) (ownFrom_below (Nat.le_refl _) (by simp; omega)))
    (fun _ _ _ _ _ hs _ _ => hs)
    ⟨⟨_, bO.alloc _, World.ownsRow_nil _ _ _ _, trivial⟩, hB0⟩
    (fun x => { tmps := #[.string s, undef, .slice none 0 0, .pointer (some ⟨w.heap.size, 0, none⟩), .int .u8 x.1.toNat, .string x.2, .string s, .func (.func 53) #[] #[.pointer (some ⟨w.heap.size + 1, 0, none⟩)], .int .u8 x.1.toNat, .string x.2, undef, undef, undef, undef, undef, undef, undef, undef, undef], defers := [] }) ?assign ?body ?done ?stop
  case assign =>
    intro l x W K hK
    gi_wp2
    exact hK
  case body =>
    rintro l pre x W ⟨⟨v, hv, hrow, _⟩, hB⟩ hlt
    have hc := hv.cell
    have hpl := grow_le pre
    gi_wp2_with (first
      | (gi_at_call 38; refine (CallsIn.inRound l (callsIn_wide.2 (stands_any _ _ _))).mono ?_; rintro e w' ⟨rfl, rfl⟩)
      | (gi_at_builtin; refine wpListIn_append_own _ rfl _ _ 31 rfl w.heap.size 9 i0 (.string ⟨#[]⟩) 1 16 Try.underlying31 hi hz0 hz1 hz2 rfl (by decide) _ _ _ rfl (hrow.alloc _) ⟨W.heap.size, 0, none⟩ 1 1 [.string x.2] rfl rfl (cell_one_new _ _ _) (by simp [Value.oneCell']) (by unfold maxLen; omega) (by omega) (by have := hB.size; simp; omega) ?_; intro v' w1 hown' hgrow _; obtain ⟨g', cap', rfl⟩ := ownsRow_succ hown'; obtain ⟨hv1, hv2, hr2, hk2, hb2⟩ := hv.appended (by decide) hrow hB.size (Nat.le_refl _) hown' hgrow; have hc1 := hv1.cell; have hf1 := hv1.frozen))
    · have hx : qflag x = false := qflag_no (by assumption)
      exact ⟨hk2.from _, hb2, ⟨_, hv2, by rw [grow_hit hx]; simpa using hr2, trivial⟩, hB.trans hb2⟩
    · have hx : qflag x = true := qflag_yes (by assumption)
      exact ⟨KeepsFrom.refl _ _, Below.refl _ _, ⟨v, hv, by rw [grow_miss hx]; exact hrow, trivial⟩, hB⟩
  case done =>
    rintro D ys W hD rfl ⟨⟨v, hv, hrow, _⟩, hB⟩ hK
    have hc := hv.cell
    gi_wp2
    refine ⟨by simp, .inl ⟨_, _, rfl, run_takeDeferred hK, ?_⟩⟩
    have hrow' := ownsRow_putObj hrow (.deferred none) hK rfl
    rw [grow_all, List.length_map, List.map_map] at hrow'
    exact ⟨_, results_tmp rfl _ _ _, v, rfl, hrow', fin_below hB (by simp; omega) hD hK⟩
  case stop =>
    rintro D c pre W _ _ h _
    exact h.elim
end Go.Proofs.Ytelpgjlcagbcjaa
