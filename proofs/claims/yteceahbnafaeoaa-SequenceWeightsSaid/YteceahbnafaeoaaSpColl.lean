/- AppendSeq and Collect over an iterator of indices. -/
import Derived.Test.YteceahbnafaeoaaSpSub
namespace Go.Proofs.Yteceahbnafaeoaa
set_option linter.unusedSimpArgs false
set_option linter.unusedVariables false
set_option maxRecDepth 100000
open Go.RowKit Go.Shelf Go.Deep
attribute [local go_sem] Oper.semAt_some wide_fn

abbrev mapN (l : List Nat) : List Value := l.map fun x : Nat => intV x
set_option maxHeartbeats 2000000 in
theorem appendSeq_any (L : List Nat) (hn : L.length ≤ 1024) (g : Nat) (lb : Array Value) (eg : ∀ args w, Sem.run Try.prog (callFunc g args) w = .ok (.enter g args) w) (w : World)
    (hseq : SeqStopsK Fence.wide 8 Try.prog g lb encN (Below w.heap.size) (fun ys => ys = L) (fun pre => pre <+: L) L.length w) :
    Calls Try.prog 67 #[.slice none 0 0, .func (.func g) #[] lb] w fun e w' => ∃ v, e = .returned v ∧ w'.ownsRow w.heap.size 3 1 v L.length (mapN L) ∧ Below w.heap.size w w' := by
  obtain ⟨i0, hi, hz0, hz1, hz2⟩ := info_parts info_int
  refine (callsIn_wide (n := 9)).1 ?_
  refine callsIn_of_wp_marks Try.func67 rfl trivial ?_ rfl
  simp only [Try.ntmps67, List.size_toArray, List.length_cons, List.length_nil, Nat.reduceAdd, Nat.reduceSub, Array.replicate_succ, Array.replicate_zero, List.push_toArray, List.append_toArray, List.nil_append, List.cons_append]
  gi_wp2
  have bO := Boxed.new w 22 (.slice none 0 0)
  have hB0 : Below w.heap.size w (w.alloc (.cells #[.slice none 0 0] 22)) := (Below.refl _ w).alloc (Nat.le_refl _) _
  refine wpIn_rangeFunc_ownG rfl (by omega) (gf := g) (lb := lb) rfl trivial eg
    (fun l J Jx W hW hJ hJx hY h0 => hseq l J Jx W (hB0.trans (hW.mono hB0.size)) hJ hJx hY h0) belowK_t (belowK_b (by simp)) (Below.refl _ _) (fun _ => rfl)
    (fun pre W => (∃ v, Boxed W w.heap.size 22 v ∧ W.ownsRow w.heap.size 3 1 v pre.length (mapN pre) ∧ (v = .slice none 0 0 ↔ pre = [])) ∧ Below w.heap.size w W)
    (fun _ _ _ => False)
    (OwnFrom.and (Own.from (holdsRow_own w.heap.size w.heap.size 22 3 1 (fun pre => pre.length) (fun pre => mapN pre) (fun pre v => v = .slice none 0 0 ↔ pre = [])) _) (ownFrom_below (Nat.le_refl _) (by simp)))
    (fun _ _ _ _ _ hs _ _ => hs)
    ⟨⟨_, bO, World.ownsRow_nil _ _ _ _, by simp⟩, hB0⟩
    (fun x => { tmps := #[.slice none 0 0, .func (.func g) #[] lb, .pointer (some ⟨w.heap.size, 0, none⟩), undef, .slice none 0 0, intV x, .func (.func g) #[] lb, intV x, undef, undef, undef, undef, undef], defers := [] }) ?assign ?body ?done ?stop
  case assign =>
    intro l x W K hK
    gi_wp2
    exact hK
  case body =>
    rintro l pre x W ⟨⟨v, hv, hrow, hnil⟩, hB⟩ hlt
    have hc := hv.cell
    gi_wp2_with (gi_at_builtin; refine wpListIn_append_own _ rfl _ _ 22 rfl w.heap.size 3 i0 (.int .i64 0) 1 8 Try.underlying22 hi hz0 hz1 hz2 rfl (by decide) _ _ _ rfl (hrow.alloc _) ⟨W.heap.size, 0, none⟩ 1 1 [intV x] rfl rfl (cell_one_new _ _ _) (by simp [Value.oneCell']) (by unfold maxLen; omega) (by omega) (by have := hB.size; simp; omega) ?_; intro v' w1 hown' hgrow _; obtain ⟨g', cap', rfl⟩ := ownsRow_succ hown'; obtain ⟨hv1, hv2, hr2, hk2, hb2⟩ := hv.appended (by decide) hrow hB.size (Nat.le_refl _) hown' hgrow; have hc1 := hv1.cell; have hf1 := hv1.frozen)
    exact ⟨hk2.from _, hb2, ⟨_, hv2, by simpa using hr2, by simp⟩, hB.trans hb2⟩
  case done =>
    rintro D ys W hD rfl ⟨⟨v, hv, hrow, hnil⟩, hB⟩ hK
    have hc := hv.cell
    gi_wp2
    refine ⟨by simp, .inl ⟨_, _, rfl, run_takeDeferred hK, ?_⟩⟩
    exact ⟨_, results_tmp rfl _ _ _, v, rfl, ownsRow_putObj hrow _ hK rfl, hB.trans (belowK_b (w := w) (Nat.le_refl _) W D _ _ (by simp at hD; omega) hK rfl rfl)⟩
  case stop =>
    rintro D c pre W _ _ h _
    exact h.elim

set_option maxHeartbeats 1000000 in
theorem collect_any (L : List Nat) (hn : L.length ≤ 1024) (g : Nat) (lb : Array Value) (eg : ∀ args w, Sem.run Try.prog (callFunc g args) w = .ok (.enter g args) w) (w : World)
    (hseq : SeqStopsK Fence.wide 8 Try.prog g lb encN (Below w.heap.size) (fun ys => ys = L) (fun pre => pre <+: L) L.length w) :
    Calls Try.prog 47 #[.func (.func g) #[] lb] w fun e w' => ∃ v, e = .returned v ∧ IntsAt w' v (L.map fun x : Nat => (x : Int)) ∧ Below w.heap.size w w' := by
  have HC := Lib.hid (appendSeq_any L hn g lb eg w hseq)
  clear hseq
  go_enter Try.func47, Try.ntmps47
  go_wp2_with fail
  refine HC.out.mono ?_
  rintro e w1 ⟨v, rfl, h1, h2⟩
  have H1 := Lib.hid (IntsAt.of_own (zs := L.map fun x : Nat => (x : Int)) (by rw [List.map_map]; exact h1))
  obtain ⟨Z, hZ⟩ : ∃ Z, L.map (fun x : Nat => (x : Int)) = Z := ⟨_, rfl⟩
  rw [hZ] at H1
  obtain ⟨a, cap, hvv, _⟩ := id H1.out
  subst hvv
  go_wp2
  go_ret
  rw [hZ]
  exact ⟨_, rfl, H1.out, h2⟩

end Go.Proofs.Yteceahbnafaeoaa
