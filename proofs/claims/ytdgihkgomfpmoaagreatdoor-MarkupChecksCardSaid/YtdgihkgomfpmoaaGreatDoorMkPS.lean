/- The program of layer 9: Scan. -/
import Derived.Test.YtdgihkgomfpmoaaGreatDoorMkPI
import Derived.Deep.Slices
namespace Go.Proofs.YtdgihkgomfpmoaaGreatDoor
set_option linter.unusedSimpArgs false
set_option linter.unusedVariables false
set_option maxRecDepth 100000
open Go.RowKit Go.Deep Go.Shelf
attribute [local go_sem] Oper.semAt_some wide_fnM

def lastE (pre : List (Lx × Int)) : Int := match pre.getLast? with | some p => p.2 | none => 0
theorem lastE_snoc (pre : List (Lx × Int)) (p : Lx × Int) : lastE (pre ++ [p]) = p.2 := by unfold lastE; simp
theorem fold_ok : ∀ (l : List (Lx × Int)), (∀ p ∈ l, p.2 = 0) → foldR l = (l.map Prod.fst, 0)
  | [], _ => rfl
  | x :: r, h => by
    rw [foldR, if_pos (h x (by simp)), fold_ok r (fun p hp => h p (by simp [hp])), consR, if_pos rfl]; rfl
theorem fold_stop : ∀ (n o : Nat) (l : Bs) (pre : List (Lx × Int)), pre <+: itemsF n o l → lastE pre ≠ 0 → foldR (itemsF n o l) = ([], lastE pre)
  | 0, _, _, pre, hp, he => by
    rw [itemsF] at hp
    rw [List.prefix_nil.1 hp] at he
    exact absurd rfl he
  | _ + 1, _, [], pre, hp, he => by
    rw [itemsF] at hp
    rw [List.prefix_nil.1 hp] at he
    exact absurd rfl he
  | n + 1, o, c :: t, pre, hp, he => by
    rw [itemsF] at hp ⊢
    cases pre with
    | nil => exact absurd rfl he
    | cons x pre =>
      rw [List.cons_prefix_cons] at hp
      obtain ⟨hx, hp⟩ := hp
      rw [foldR]
      by_cases h0 : (readR (partOf (c :: t))).2 = 0
      · rw [if_pos h0] at hp
        rw [if_pos h0, if_pos h0]
        have hl : lastE (x :: pre) = lastE pre := by
          cases pre with
          | nil => exfalso; rw [hx] at he; exact he h0
          | cons y r => unfold lastE; rw [List.getLast?_cons_cons]
        rw [hl] at he ⊢
        rw [fold_stop n _ _ pre hp he, consR, if_neg he]
      · rw [if_neg h0] at hp
        rw [List.prefix_nil.1 hp] at he ⊢
        simp only [h0, if_false]
        have : lastE [x] = x.2 := by unfold lastE; simp
        rw [this, hx]
theorem scan_big {s : Bs} (h : 65536 < s.length) : scanR s = ([], 4) := by unfold scanR; rw [if_pos h]
theorem scan_fold {s : Bs} (h : ¬ 65536 < s.length) : scanR s = foldR (items s) := by
  unfold scanR items
  rw [if_neg h, items_scan _ _ _ (by omega)]
theorem fin_cellM {W : World} {D B : Nat} {t : TypeId} {v : Value} (hb : Boxed W B t v) (hK : W.heap[D]? = some (.deferred (some []))) : (W.putObj D (.deferred none)).cell? ⟨B, 0, none⟩ = some v :=
  cell_kept hb.cell (grownBy_putObj' _ D (.deferred none)) (fun r e => by cases e; exact ⟨_, hK, rfl⟩)
theorem fin_storeM {W : World} {D B : Nat} (v : Value) (hK : W.heap[D]? = some (.deferred (some []))) : (W.setCell ⟨B, 0, none⟩ v).heap[D]? = some (.deferred (some [])) :=
  (KeepsOthers.setCell W ⟨B, 0, none⟩ v).same D _ hK rfl
theorem fin_belowM {w W0 W : World} {n D : Nat} (hB : Below n w W) (hn : n ≤ W0.heap.size) (hD : W0.heap.size ≤ D) (hK : W.heap[D]? = some (.deferred (some []))) : Below n w (W.putObj D (.deferred none)) :=
  hB.trans (belowK_b (w := W0) hn W D _ _ hD hK rfl rfl)
theorem heap_pushM (w : World) (o : Obj) : (w.alloc o).heap = w.heap.push o := rfl
theorem blocks4 (w : World) (o0 o1 o2 o3 : Obj) {W : World} (hW : (((w.alloc o0).alloc o1).alloc o2).alloc o3 = W) :
    W.heap.size = w.heap.size + 4 ∧ W.heap[w.heap.size]? = some o0 ∧ W.heap[w.heap.size + 1]? = some o1 ∧ W.heap[w.heap.size + 1 + 1]? = some o2 ∧ W.heap[w.heap.size + 1 + 1 + 1]? = some o3 ∧ Below w.heap.size w W := by
  subst hW
  have hp : ∀ (A : Array Obj) (o : Obj) (i : Nat), (A.push o)[i]? = if i = A.size then some o else A[i]? := fun A o i => by rw [Array.getElem?_push]
  refine ⟨by simp, ?_, ?_, ?_, ?_, ?_⟩
  iterate 4
    · simp only [heap_pushM, hp, Array.size_push]
      repeat (first | rw [if_pos trivial] | rw [if_neg (by omega)])
  · exact ((((Below.refl _ w).alloc (Nat.le_refl _) _).alloc (by simp) _).alloc (by simp; omega) _).alloc (by simp; omega) _
theorem ty_sl : (24 : TypeId) ≠ 41 := by decide
theorem ty_st : (9 : TypeId) ≠ 41 := by decide
theorem ty_er : (25 : TypeId) ≠ 41 := by decide
abbrev cellsIt (pre : List (Lx × Int)) : List Value := (pre.map Prod.fst).flatMap cellsX
set_option maxHeartbeats 1000000 in
theorem scanBig_any (s : Bs) (h : 65536 < s.length) (hs : s.length ≤ maxLen) (w : World) :
    Calls Tryz.prog 7 #[sV s] w (LexPost (scanR s) w) := by
  have hsz : (baL s).size = s.length := baL_size s
  have hd : decide ((65536 : Int) < (s.length : Int)) = true := decide_eq_true (by omega)
  rw [scan_big h]
  unfold maxLen at hs
  clear h
  go_enter Tryz.func7, Tryz.ntmps7
  go_wp2
  refine bodyPost_ret (v := .tuple #[.slice none 0 0, intV 4]) (by simp [results, Tryz.results7, go_sem]) rfl ⟨_, rfl, LexAt.empty _ _ _, ?_⟩
  exact ((Below.refl _ w).alloc (Nat.le_refl _) _).alloc (by simp) _

set_option maxHeartbeats 4000000 in
theorem scanFew_any (s : Bs) (h : ¬ 65536 < s.length) (w : World) [T w] :
    Calls Tryz.prog 7 #[sV s] w (LexPost (scanR s) w) := by
  have hsz : (baL s).size = s.length := baL_size s
  have hd : decide ((65536 : Int) < (s.length : Int)) = false := decide_eq_false (by omega)
  have HSF := Lib.hid (scan_fold h)
  obtain ⟨i0, hi, hz0, hz1, hz2⟩ := info_parts info_lx
  refine (callsIn_wide (n := 9)).1 ?_
  refine callsIn_of_wp_marks Tryz.func7 rfl trivial ?_ rfl
  simp only [Tryz.ntmps7, List.size_toArray, List.length_cons, List.length_nil, Nat.reduceAdd, Nat.reduceSub, Array.replicate_succ, Array.replicate_zero, List.push_toArray, List.append_toArray, List.nil_append, List.cons_append]
  gi_wp2_with (gi_at_call 24; refine (callsIn_wide.2 (lexemes_any _ _)).mono ?_; rintro e w' ⟨rfl, rfl⟩)
  obtain ⟨w6, hw6⟩ : ∃ X, (((w.alloc (.cells #[.slice none 0 0] 24)).alloc (.cells #[.int .i64 0] 25)).alloc (.cells #[.slice none 0 0] 24)).alloc (.cells #[sV s] 9) = X := ⟨_, rfl⟩
  rw [hw6]
  obtain ⟨s6, k0, k1, k2, k3, kb⟩ := blocks4 w _ _ _ _ hw6
  clear hw6
  haveI : T w6 := T.below kb
  have HSTOP := lexemes_stops w s (by omega) (w.heap.size + 1 + 1 + 1) w6 (by omega) (Boxed.cell k3)
  refine wpIn_rangeFunc_ownH rfl (by omega) (gf := 36) (lb := #[.pointer (some ⟨w.heap.size + 1 + 1 + 1, 0, none⟩)]) rfl trivial Tryz.call36
    HSTOP (fun h k => h.trans k) (fun W l o o' hl ho hc _ => ⟨belowK_b (w := w6) (by omega) W l o o' hl ho hc (by assumption), World.putObj_heap_other (by omega)⟩) (Below.refl _ _) (fun _ => rfl)
    (fun pre W => (Boxed W w.heap.size 24 (.slice none 0 0) ∧ Boxed W (w.heap.size + 1) 25 (.int .i64 0) ∧ (∃ v, Boxed W (w.heap.size + 1 + 1) 24 v ∧ W.ownsRow w.heap.size 41 4 v pre.length (cellsIt pre) ∧ (v = .slice none 0 0 ↔ pre = [])) ∧ Boxed W (w.heap.size + 1 + 1 + 1) 9 (sV s) ∧ ∀ p ∈ pre, p.2 = 0) ∧ Below w.heap.size w6 W)
    (fun c pre W => (Boxed W w.heap.size 24 (.slice none 0 0) ∧ Boxed W (w.heap.size + 1) 25 (intV (lastE pre)) ∧ c = .ret ∧ lastE pre ≠ 0) ∧ Below w.heap.size w6 W)
    (OwnFrom.and (OwnFrom.and (Own.from (boxed_own _ _ _) _) (OwnFrom.and (Own.from (boxed_own _ _ _) _) (OwnFrom.and (Own.from (holdsRow_own w.heap.size (w.heap.size + 1 + 1) 24 41 4 (fun pre => pre.length) (fun pre => cellsIt pre) (fun pre v => v = .slice none 0 0 ↔ pre = [])) _) (OwnFrom.and (Own.from (boxed_own _ _ _) _) (ownFrom_pure _ _))))) (ownFrom_below (by omega) (by omega)))
    (fun c => OwnFrom.and (OwnFrom.and (Own.from (boxed_own _ _ _) _) (OwnFrom.and (Own.from (boxed_own _ _ _) _) (ownFrom_pure _ _))) (ownFrom_below (by omega) (by omega)))
    ⟨⟨k0, k1, ⟨_, k2, World.ownsRow_nil _ _ _ _, by simp⟩, k3, by simp⟩, Below.refl _ _⟩
    (fun p a' X => ∃ B7 : Nat, w6.heap.size ≤ B7 ∧ X.heap[B7]? = some (.cells #[intV p.1.k, sV p.1.n, sV p.1.v, intV p.1.o] 41 (0, 0)) ∧ a' = { tmps := #[sV s, undef, .pointer (some ⟨w.heap.size, 0, none⟩), .pointer (some ⟨w.heap.size + 1, 0, none⟩), .pointer (some ⟨w.heap.size + 1 + 1, 0, none⟩), .pointer (some ⟨B7, 0, none⟩), intV p.2, sV s, .int .i64 s.length, .bool false, sV s, .func (.func 36) #[] #[.pointer (some ⟨w.heap.size + 1 + 1 + 1, 0, none⟩)], .agg #[intV p.1.k, sV p.1.n, sV p.1.v, intV p.1.o], intV p.2, undef, undef, undef, undef, undef, undef, undef, undef], defers := [] })
    (fun p a' _ X Y row h hg hr => by
      obtain ⟨B7, h1, h2, h3⟩ := h
      exact ⟨B7, h1, (hg.block B7 (Array.getElem?_eq_some_iff.1 h2).1 (fun e => by obtain ⟨_, o, ho, hc⟩ := hr B7 e.symm; rw [h2] at ho; cases ho; cases hc)).trans h2, h3⟩)
    ?assign ?body ?done ?stop
  case assign =>
    intro l pre p X K hI hK
    have hX := hI.2.size
    gi_wp2
    obtain ⟨v, b1, b2, b3⟩ := hI.1.2.2.1
    exact hK _ _ ((KeepsOthers.alloc X _).from _) ⟨(Below.refl _ X).alloc (by omega) _, Below.heap_alloc _ _ _ (by omega)⟩ ⟨⟨hI.1.1.alloc _, hI.1.2.1.alloc _, ⟨v, b1.alloc _, b2.alloc _, b3⟩, hI.1.2.2.2.1.alloc _, hI.1.2.2.2.2⟩, hI.2.alloc (by omega) _⟩ ⟨X.heap.size, hX, World.alloc_heap_new _ _, rfl⟩
  case body =>
    rintro l pre p a' X hl hrec ⟨⟨b1, b2, ⟨v, b3, hrow, hnil⟩, b4, hok⟩, hB⟩ ⟨B7, hB7, hk7, rfl⟩ hlen
    have hX := hB.size
    have c1 := b1.cell
    have f1 := b1.frozen
    have c2 := b2.cell
    have f2 := b2.frozen
    have c3 := b3.cell
    have f3 := b3.frozen
    obtain ⟨q0, q1, q2, q3⟩ := heap4P hk7
    have HI := Lib.hid (And.intro b1 (And.intro b2 (And.intro b4 hB)))
    have HOK := Lib.hid (And.intro hok hlen)
    have HLS := Lib.hid (lastE_snoc pre p)
    by_cases he : p.2 = 0
    · have he0 : (p.2 != 0) = false := by simp [he]
      have HE := Lib.hid he
      have HROW := Lib.hid hrow
      have HB3 := Lib.hid b3
      have hcs : cellsIt (pre ++ [p]) = cellsIt pre ++ [p.1].flatMap cellsX := by simp [cellsIt]
      have HCS := Lib.hid hcs
      have HNW := Lib.hid (fun cap => LexAt.news (LexAt.of_block (cap := cap) (L := [p.1]) (World.alloc_heap_new X (.cells #[intV p.1.k, sV p.1.n, sV p.1.v, intV p.1.o] 41)) (by simp [cellsX])))
      have hln : pre.length < 65536 := by omega
      clear he b1 b2 b3 b4 hok hlen hrow hnil hcs hk7 hrec
      gi_wp2_with (gi_at_builtin; refine wpListIn_append_own _ rfl _ _ 24 rfl w.heap.size 41 i0 _ 4 48 Tryz.underlying24 hi hz0 hz1 hz2 rfl (by decide) v pre.length (cellsIt pre) rfl (HROW.out.alloc _) ⟨X.heap.size, 0, none⟩ 1 1 ([p.1].flatMap cellsX) rfl (by simp [cellsX]) (HNW.out 1) (flatX_one [p.1]) (by unfold maxLen; omega) (by omega) (by have := HI.out.2.2.2.size; simp; omega) ?_)
      intro v' w1 hown' hgrow _
      obtain ⟨g', cap', rfl⟩ := ownsRow_succ hown'
      obtain ⟨hv1, hv2, hr2, hk2, hb2⟩ := HB3.out.appended ty_sl HROW.out (by omega) (by omega) hown' hgrow
      have hc1 := hv1.cell
      have hf1 := hv1.frozen
      obtain ⟨b1, b2, b4, hB⟩ := HI.out
      have d1 := ((b1.alloc _).kept hgrow (b1.not_row ty_sl HROW.out)).other (B' := w.heap.size + 1 + 1) (by omega) (.slice (some ⟨g', 0, none⟩) (pre.length + 1) cap')
      have d2 := ((b2.alloc _).kept hgrow (b2.not_row ty_er HROW.out)).other (B' := w.heap.size + 1 + 1) (by omega) (.slice (some ⟨g', 0, none⟩) (pre.length + 1) cap')
      have d4 := ((b4.alloc _).kept hgrow (b4.not_row ty_st HROW.out)).other (B' := w.heap.size + 1 + 1) (by omega) (.slice (some ⟨g', 0, none⟩) (pre.length + 1) cap')
      have HD := Lib.hid (And.intro d1 (And.intro d2 d4))
      have HF := Lib.hid (And.intro hv2 (And.intro hr2 (And.intro hk2 (And.intro hb2 (And.intro b4 hB)))))
      clear hown' hgrow hv2 hr2 hk2 hb2 d1 d2 d4 b1 b2 b4 hB hv1
      gi_wp2
      obtain ⟨d1, d2, d4⟩ := HD.out
      obtain ⟨hv2, hr2, hk2, hb2, b4, hB⟩ := HF.out
      refine ⟨hk2.from _, ⟨hb2, d4.trans b4.symm⟩, ⟨d1, d2, ⟨_, hv2, ?_, by simp⟩, d4, fun q hq => ?_⟩, hB.trans hb2⟩
      · rw [HCS.out, List.length_append]; exact hr2
      · rcases List.mem_append.1 hq with hq | hq
        · exact HOK.out.1 q hq
        · rw [List.mem_singleton] at hq; subst hq; exact HE.out
    · have he0 : (p.2 != 0) = true := by simpa using he
      have HE := Lib.hid he
      clear he b1 b2 b3 b4 hok hlen hrow hnil hB hk7 hrec
      gi_wp2
      obtain ⟨b1, b2, b4, hB⟩ := HI.out
      refine ⟨((KeepsOthers.setCell _ _ _).trans (KeepsOthers.setCell _ _ _)).from _, ⟨(b1.set _).other (by omega) _, ?_, rfl, by rw [HLS.out]; exact HE.out⟩, (hB.setCell (p := ⟨_, 0, none⟩) (by simp) _).setCell (p := ⟨_, 0, none⟩) (by simp) _⟩
      rw [HLS.out]
      exact (b2.other (by omega) _).set _
  case done =>
    rintro D xs W hD hxs ⟨⟨b1, b2, ⟨v, b3, hrow, hnil⟩, b4, hok⟩, hB⟩ hK
    have c1 := b1.cell
    have f1 := b1.frozen
    have c2 := b2.cell
    have f2 := b2.frozen
    have c3 := b3.cell
    have HI := Lib.hid (And.intro b1 (And.intro b2 (And.intro hrow (And.intro hok hB))))
    have HKD := Lib.hid hK
    have hvs : ∃ a n c, v = .slice a n c := by
      rcases hrow.2 with ⟨rfl, _⟩ | ⟨g, cap, cur, rfl, _⟩
      · exact ⟨_, _, _, rfl⟩
      · exact ⟨_, _, _, rfl⟩
    obtain ⟨va, vn, vc, rfl⟩ := hvs
    clear b1 b2 b3 b4 hrow hok hB hK hnil
    gi_wp2
    obtain ⟨b1, b2, hrow, hok, hB⟩ := HI.out
    have hb' := (b1.set (.slice va vn vc)).other (B' := w.heap.size + 1) (by omega) (.int .i64 0)
    have hb2' := (b2.other (B' := w.heap.size) (by omega) (.slice va vn vc)).set (.int .i64 0)
    have hK' := fin_storeM (B := w.heap.size + 1) (.int .i64 0) (fin_storeM (B := w.heap.size) (.slice va vn vc) HKD.out)
    have hc5 := fin_cellM hb' hK'
    have hc6 := fin_cellM hb2' hK'
    refine ⟨by simp, .inl ⟨_, _, rfl, run_takeDeferred hK', ?_⟩⟩
    refine ⟨.tuple #[.slice va vn vc, intV 0], by simp [results, Tryz.f7, go_sem, hc5, hc6], ?_⟩
    rw [HSF.out, ← hxs, fold_ok xs hok]
    refine ⟨_, rfl, ?_, fin_belowM (W0 := w6) (kb.trans ((hB.setCell (p := ⟨_, 0, none⟩) (by simp) _).setCell (p := ⟨_, 0, none⟩) (by simp) _)) (by omega) hD hK'⟩
    have r1 := hrow.kept (grownBy_setCell' W w.heap.size (.slice va vn vc)) (.inr (b1.not_row ty_sl hrow).symm)
    have b3' := b2.other (B' := w.heap.size) (by omega) (.slice va vn vc)
    have r2 := r1.kept (grownBy_setCell' _ (w.heap.size + 1) (.int .i64 0)) (.inr (b3'.not_row ty_er r1).symm)
    have r3 := ownsRow_putObj r2 (.deferred none) hK' rfl
    exact LexAt.of_own (L := xs.map Prod.fst) r3
  case stop =>
    rintro D c pre W hD hpre ⟨⟨b1, b2, rfl, hne⟩, hB⟩ hK
    have HI := Lib.hid (And.intro b1 (And.intro b2 hB))
    have HKD := Lib.hid hK
    clear b1 b2 hB hK
    gi_wp2
    obtain ⟨b1, b2, hB⟩ := HI.out
    have hc5 := fin_cellM b1 HKD.out
    have hc6 := fin_cellM b2 HKD.out
    refine ⟨by simp, .inl ⟨_, _, rfl, run_takeDeferred HKD.out, ?_⟩⟩
    refine ⟨.tuple #[.slice none 0 0, intV (lastE pre)], by simp [results, Tryz.f7, go_sem, hc5, hc6], ?_⟩
    rw [HSF.out, items, fold_stop _ _ _ pre hpre hne]
    exact ⟨_, rfl, LexAt.empty _ _ _, fin_belowM (W0 := w6) (kb.trans hB) (by omega) hD HKD.out⟩
theorem scan_any (s : Bs) (hs : s.length ≤ maxLen) (w : World) [T w] : Calls Tryz.prog 7 #[sV s] w (LexPost (scanR s) w) := by
  by_cases h : 65536 < s.length
  · exact scanBig_any s h hs w
  · exact scanFew_any s h w
end Go.Proofs.YtdgihkgomfpmoaaGreatDoor
