/- AppendSeq, Collect, listOf. -/
import Derived.Test.YtdplcpnahahkaaaIsIter
namespace Go.Proofs.Ytdplcpnahahkaaa
set_option linter.unusedSimpArgs false
set_option linter.unusedVariables false
set_option maxRecDepth 100000
open Go.RowKit Go.Shelf
attribute [local go_sem] Oper.semAt_some wide_fn

abbrev mapN (l : List Nat) : List Value := l.map fun x : Nat => intV x
set_option maxHeartbeats 2000000 in
theorem appendSeq_any (n : Nat) (hn : n ≤ 64) (p : Nat → Bool) (g : Nat) (lb : Array Value) (eg : ∀ args w, Sem.run Try.prog (callFunc g args) w = .ok (.enter g args) w) (w : World)
    (hseq : SeqStopsK Fence.wide 8 Try.prog g lb encN (Below w.heap.size) (fun ys => ys = selN n p) (fun pre => pre <+: selN n p) n w) :
    Calls Try.prog 72 #[.slice none 0 0, .func (.func g) #[] lb] w fun e w' => ∃ v, e = .returned v ∧ w'.ownsRow w.heap.size 3 1 v (selN n p).length (mapN (selN n p)) ∧ Below w.heap.size w w' := by
  obtain ⟨i0, hi, hz0, hz1, hz2⟩ := info_parts info_int
  refine (callsIn_wide (n := 9)).1 ?_
  refine callsIn_of_wp_marks Try.func72 rfl trivial ?_ rfl
  simp only [Try.ntmps72, List.size_toArray, List.length_cons, List.length_nil, Nat.reduceAdd, Nat.reduceSub, Array.replicate_succ, Array.replicate_zero, List.push_toArray, List.append_toArray, List.nil_append, List.cons_append]
  gi_wp2
  have bO := Boxed.new w 22 (.slice none 0 0)
  have hB0 : Below w.heap.size w (w.alloc (.cells #[.slice none 0 0] 22)) := (Below.refl _ w).alloc (Nat.le_refl _) _
  refine wpIn_rangeFunc_ownG rfl (by omega) (gf := g) (lb := lb) rfl trivial eg
    (fun l J Jx W hW hJ hJx hY h0 => hseq l J Jx W (hB0.trans (hW.mono hB0.size)) hJ hJx hY h0) belowK_t (belowK_b (by simp)) (Below.refl _ _) (fun _ => rfl)
    (fun pre W => (∃ v, Boxed W w.heap.size 22 v ∧ W.ownsRow w.heap.size 3 1 v pre.length (mapN pre) ∧ (v = .slice none 0 0 ↔ pre = [])) ∧ Below w.heap.size w W)
    (fun _ _ _ => False)
    (OwnFrom.and (Own.from (holdsRow_own w.heap.size w.heap.size 22 3 1 (fun pre => pre.length) (fun pre => mapN pre) (fun pre v => v = .slice none 0 0 ↔ pre = [])) _) (ownFrom_below (Nat.le_refl _) (by simp)))
    (fun _ _ _ _ _ hs _ _ => hs)
    ⟨⟨_, bO, World.ownsRow_nil _ _ _ _, by simp⟩, hB0⟩
    (fun x => { tmps := #[.slice none 0 0, .func (.func g) #[] lb, .pointer (some ⟨w.heap.size, 0, none⟩), undef, .slice none 0 0, intV x, .func (.func g) #[] lb, intV x, undef, undef, undef, undef, undef], defers := [] }) ?assign ?body ?done ?stop
  case assign =>
    intro l x W K hK
    gi_wp2
    exact hK
  case body =>
    rintro l pre x W ⟨⟨v, hv, hrow, hnil⟩, hB⟩ hlt
    have hc := hv.cell
    gi_wp2_with (gi_at_builtin; refine wpListIn_append_own _ rfl _ _ 22 rfl w.heap.size 3 i0 (.int .i64 0) 1 8 Try.underlying22 hi hz0 hz1 hz2 rfl (by decide) _ _ _ rfl (hrow.alloc _) ⟨W.heap.size, 0, none⟩ 1 1 [intV x] rfl rfl (cell_one_new _ _ _) (by simp [Value.oneCell']) (by unfold maxLen; omega) (by omega) (by have := hB.size; simp; omega) ?_; intro v' w1 hown' hgrow _; obtain ⟨g', cap', rfl⟩ := ownsRow_succ hown'; obtain ⟨hv1, hv2, hr2, hk2, hb2⟩ := hv.appended (by decide) hrow hB.size (Nat.le_refl _) hown' hgrow; have hc1 := hv1.cell; have hf1 := hv1.frozen)
    exact ⟨hk2.from _, hb2, ⟨_, hv2, by simpa using hr2, by simp⟩, hB.trans hb2⟩
  case done =>
    rintro D ys W hD rfl ⟨⟨v, hv, hrow, hnil⟩, hB⟩ hK
    have hc := hv.cell
    gi_wp2
    refine ⟨by simp, .inl ⟨_, _, rfl, run_takeDeferred hK, ?_⟩⟩
    exact ⟨_, results_tmp rfl _ _ _, v, rfl, ownsRow_putObj hrow _ hK rfl, hB.trans (belowK_b (w := w) (Nat.le_refl _) W D _ _ (by simp at hD; omega) hK rfl rfl)⟩
  case stop =>
    rintro D c pre W _ _ h _
    exact h.elim

set_option maxHeartbeats 1000000 in
theorem collect_any (n : Nat) (hn : n ≤ 64) (p : Nat → Bool) (g : Nat) (lb : Array Value) (eg : ∀ args w, Sem.run Try.prog (callFunc g args) w = .ok (.enter g args) w) (w : World)
    (hseq : SeqStopsK Fence.wide 8 Try.prog g lb encN (Below w.heap.size) (fun ys => ys = selN n p) (fun pre => pre <+: selN n p) n w) :
    Calls Try.prog 66 #[.func (.func g) #[] lb] w fun e w' => ∃ v, e = .returned v ∧ IntsAt w' v (sel n p) ∧ Below w.heap.size w w' := by
  have HC := Lib.hid (appendSeq_any n hn p g lb eg w hseq)
  clear hseq
  go_enter Try.func66, Try.ntmps66
  go_wp2_with fail
  refine HC.out.mono ?_
  rintro e w1 ⟨v, rfl, h1, h2⟩
  have H1 := Lib.hid (IntsAt.of_own (zs := sel n p) (by rw [← selN_int, List.map_map]; exact h1))
  obtain ⟨a, cap, rfl, _⟩ := id H1.out
  go_wp2
  go_ret
  exact ⟨_, rfl, H1.out, h2⟩

set_option maxHeartbeats 1000000 in
/-- the list of the integers that a function picks -/
theorem listOf_any (n : Nat) (hn : n ≤ 64) (p : Nat → Bool) (fe : Nat) (bs cs : Array Value) (hce : ∀ args W, Sem.run Try.prog (callFunc fe args) W = .ok (.enter fe args) W) (w : World) (hP : Picks w fe bs cs n p) :
    Calls Try.prog 43 #[intV n, .func (.func fe) bs cs] w fun e w' => ∃ v, e = .returned v ∧ IntsAt w' v (sel n p) ∧ Below w.heap.size w w' := by
  have HP := Lib.hid hP
  clear hP
  go_enter Try.func43, Try.ntmps43
  go_wp2_with fail
  refine (members_any n fe bs cs _).mono ?_
  rintro e w1 ⟨rfl, rfl⟩
  obtain ⟨w1, hw1⟩ : ∃ w1, (w.alloc (.cells #[intV n] 3)).alloc (.cells #[.func (.func fe) bs cs] 48) = w1 := ⟨_, rfl⟩
  have hB : Below w.heap.size w w1 := by rw [← hw1]; exact ((Below.refl _ _).alloc (Nat.le_refl _) _).alloc (by simp) _
  have hc1 : w1.cell? ⟨w.heap.size, 0, none⟩ = some (intV n) := by rw [← hw1, World.cell?_alloc_lt _ _ _ (by simp), World.cell?_alloc_new]; rfl
  have hc2 : w1.cell? ⟨w.heap.size + 1, 0, none⟩ = some (.func (.func fe) bs cs) := by
    have := World.cell?_alloc_new (w.alloc (.cells #[intV n] 3)) #[.func (.func fe) bs cs] 48 0
    rw [World.size_alloc] at this
    rw [← hw1, this]; rfl
  have hs1 : w1.heap.size = w.heap.size + 2 := by rw [← hw1]; simp
  rw [hw1]
  have HS := Lib.hid (collect_any n hn p 73 _ Try.call73 w1 (members_stops w.heap.size (w.heap.size + 1) n hn p fe bs cs hce w1 (by omega) (by omega) hc1 hc2 (fun W' hW i hi => HP.out W' (hB.trans (hW.mono hB.size)) i hi)))
  have HB := Lib.hid hB
  clear hc1 hc2 hw1 hB
  go_wp2_with fail
  refine HS.out.mono ?_
  rintro e w2 ⟨v, rfl, h1, h2⟩
  have H1 := Lib.hid h1
  obtain ⟨a, cap, rfl, _⟩ := id H1.out
  go_wp2
  go_ret
  exact ⟨_, rfl, H1.out, below_then HB.out h2⟩
end Go.Proofs.Ytdplcpnahahkaaa
