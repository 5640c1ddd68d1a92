/- Reverse of the program. -/
import Derived.Test.YtjjdihkjkmhjnaaGpBack
namespace Go.Proofs.Ytjjdihkjkmhjnaa
set_option linter.unusedSimpArgs false
set_option linter.unusedVariables false
set_option maxRecDepth 100000
open Go.RowKit Go.Deep Go.Shelf
attribute [local go_sem] Oper.semAt_some wide_fn

theorem isB_grown {B b : Nat} {bs : List Value} {w w' : World} {row : Option Nat} (h : IsB B b bs w) (hg : w.grownBy w' row) (hr : ∀ r, row = some r → ∃ o : Obj, w.heap[r]? = some o ∧ ∀ c, o ≠ .cells c 5 (0, 0) ∧ o ≠ .cells c 51 (0, 0)) : IsB B b bs w' := by
  have key : ∀ p, Lib.BuilderAt 51 5 B b p bs w → Lib.BuilderAt 51 5 B b p bs w' := by
    rintro p ⟨hB, v, hb, ho, hne⟩
    refine ⟨hB, v, (hg.block b (lt_of_heap hb) (fun e => ?_)).trans hb, ho.kept hg ?_, hne⟩
    · obtain ⟨o, h1, h2⟩ := hr b e.symm
      rw [hb] at h1; cases h1
      exact (h2 _).2 rfl
    · rcases ho.2 with ⟨rfl, _⟩ | ⟨g, cap, cur, rfl, _, hgg, _⟩
      · exact .inl rfl
      · refine .inr fun e => ?_
        obtain ⟨o, h1, h2⟩ := hr g (by rw [← e]; rfl)
        rw [hgg] at h1; cases h1
        exact (h2 _).1 rfl
  exact h.imp (key _) (key _)
theorem isB_own {B b M : Nat} {α : Type} (f : α → List Value) : OwnFrom M (fun (s : α) W => IsB B b (f s) W) := fun s X Y row hs hg hr =>
  isB_grown hs hg (fun r e => by
    obtain ⟨_, o, h1, h2⟩ := hr r e
    exact ⟨o, h1, fun c => ⟨(fun e => by subst e; cases h2), (fun e => by subst e; cases h2)⟩⟩)
theorem boxed_below {A B : World} {b : Nat} {t : TypeId} {v : Value} (hb : Boxed A b t v) (h : Below A.heap.size A B) : Boxed B b t v := (h.block b hb.lt).trans hb
theorem fin_below {w W0 W : World} {n D : Nat} (hB : Below n w W) (hn : n ≤ W0.heap.size) (hD : W0.heap.size ≤ D) (hK : W.heap[D]? = some (.deferred (some []))) : Below n w (W.putObj D (.deferred none)) :=
  hB.trans (belowK_b (w := W0) hn W D _ _ hD hK rfl rfl)
theorem pat_txt {s : ByteArray} (h : chk s.data.toList = 0) : ∀ x ∈ (par s.data.toList).2, x.txt.length ≤ 64 := by
  obtain ⟨_, l, hp, _, _, _, hx⟩ := chk_ok h
  rw [hp]; exact hx
/-- the text of what has been handed over -/
def bytesR (pre : List BEl) : List UInt8 := txts (pre.map fun p => p.1.2)
theorem bytesR_snoc (pre : List BEl) (x : BEl) : bytesR (pre ++ [x]) = bytesR pre ++ x.1.2.txt := by
  unfold bytesR
  rw [List.map_append, txts_append]; simp [txts]
theorem bytesR_len : ∀ pre : List BEl, (bytesR pre).length ≤ pre.length * 64
  | [] => by simp [bytesR, txts]
  | x :: pre => by
    have h1 := bytesR_len pre
    have h2 := x.2
    have h3 : bytesR (x :: pre) = x.1.2.txt ++ bytesR pre := rfl
    rw [h3, List.length_append, List.length_cons]; omega
set_option maxHeartbeats 4000000 in
theorem reverse_good (p t : ByteArray) (l : List El) (hp : chk p.data.toList = 0) (hl : (par p.data.toList).2 = l) (ht : txts l.reverse = t.data.toList) (w : World) :
    Calls Try.prog 17 #[.string p] w fun e w' => e = .returned (.tuple #[.string t, intV 0]) ∧ Below w.heap.size w w' := by
  have HEL := Lib.hid (elements_good p l hp hl w)
  have HLE := Lib.hid (show l.length ≤ 64 by rw [← hl]; exact pat_len hp)
  have HTX := Lib.hid (show ∀ x ∈ l, x.txt.length ≤ 64 by rw [← hl]; exact pat_txt hp)
  have HT := Lib.hid ht
  clear hl hp ht
  refine (callsIn_wide (n := 9)).1 ?_
  refine callsIn_of_wp_marks Try.func17 rfl trivial ?_ rfl
  simp only [Try.ntmps17, List.size_toArray, List.length_cons, List.length_nil, Nat.reduceAdd, Nat.reduceSub, Array.replicate_succ, Array.replicate_zero, List.push_toArray, List.append_toArray, List.nil_append, List.cons_append]
  gi_wp2_with fail
  refine (callsIn_wide.2 HEL.out).mono ?_
  rintro e w1 ⟨v, rfl, he1, h1⟩
  obtain ⟨va, vc, rfl⟩ := he1.slice
  have HE1 := Lib.hid he1
  have HB1 := Lib.hid h1
  clear he1 h1
  gi_wp2_with fail
  refine (callsIn_wide.2 (backward_any _ va l.length vc rfl _)).mono ?_
  rintro e w2 ⟨rfl, rfl⟩
  gi_wp2_with fail
  obtain ⟨w3, hw3⟩ : ∃ X, (w1.alloc (.cells #[.pointer none, .slice none 0 0] 51)).alloc (.cells #[.slice va l.length vc] 45) = X := ⟨_, rfl⟩
  have hs3 : w3.heap.size = w1.heap.size + 1 + 1 := by rw [← hw3, World.size_alloc, World.size_alloc]
  have hNB : IsB w1.heap.size w1.heap.size [] w3 := by rw [← hw3]; exact isB_alloc (isB_new w1) _
  have hBX : Boxed w3 (w1.heap.size + 1) 45 (.slice va l.length vc) := by
    have := Boxed.new (w1.alloc (.cells #[.pointer none, .slice none 0 0] 51)) 45 (.slice va l.length vc)
    rw [World.size_alloc] at this
    rw [← hw3]; exact this
  have hBL : Below w1.heap.size w1 w3 := by rw [← hw3]; exact (below_box0 w1 _).alloc (by simp) _
  rw [hw3]
  clear hw3
  refine wpIn_rangeFunc_ownH rfl (by omega) (gf := 55) (lb := #[.pointer (some ⟨w1.heap.size + 1, 0, none⟩)]) rfl trivial (enters_of Try.func55 (by kernel_rfl) rfl)
    (back_stops (w1.heap.size + 1) l HLE.out HTX.out va vc w1 w3 HE1.out hBL (by omega) hBX.cell) (fun h k => KB.t h k) (KB.b (by omega) (by omega)) (Below.refl _ _) (fun _ => rfl)
    (fun pre W => ((IsB w1.heap.size w1.heap.size (Lib.byteCells (bytesR pre)) W ∧ Boxed W (w1.heap.size + 1) 45 (.slice va l.length vc)) ∧ Below w1.heap.size w1 W) ∧ w3.heap.size ≤ W.heap.size)
    (fun _ _ _ => False)
    (OwnFrom.and (OwnFrom.and (OwnFrom.and (isB_own _) (Own.from (boxed_own _ _ _) _)) (ownFrom_below (by omega) (by omega))) (fun _ _ _ _ h hg _ => Nat.le_trans h hg.size))
    (fun _ _ _ _ _ h _ _ => h)
    ⟨⟨⟨hNB, hBX⟩, hBL⟩, Nat.le_refl _⟩
    (fun x a' W => ∃ B8 : Nat, w3.heap.size ≤ B8 ∧ W.heap[B8]? = some (.cells (elA x.1.2) 55 (0, 0)) ∧ a' = { tmps := #[Value.string p, undef, Value.string { data := #[] }, Value.int IntKind.i64 0, Value.slice va l.length vc, Value.bool true, Value.pointer (some { block := w1.heap.size, off := 0 }), undef, Value.pointer (some ⟨B8, 0, none⟩), Value.tuple #[Value.slice va l.length vc, Value.bool true], Value.string p, Value.tuple #[Value.slice va l.length vc, Value.bool true], Value.slice va l.length vc, Value.bool true, Value.bool true, Value.bool false, Value.slice va l.length vc, Value.func (Fn.func 55) #[] #[Value.pointer (some { block := w1.heap.size + 1, off := 0 })], .int .i64 x.1.1, .agg (elA x.1.2), undef, undef, undef, undef], defers := [] })
    (fun x a' _ X Y row h hg hr => by
      obtain ⟨B8, h1, h2, h3⟩ := h
      exact ⟨B8, h1, (hg.block B8 (lt_of_heap h2) (fun e => by obtain ⟨_, o, ho, hc⟩ := hr B8 e.symm; rw [h2] at ho; cases ho; cases hc)).trans h2, h3⟩)
    ?assign ?body ?done ?stop
  case assign =>
    intro lp pre x X K hI hK
    have hX := hI.2
    have hXb := hI.1.1.2.lt
    have hz := (zero_of_info info_el).1
    have HN1 := Lib.hid (heap_alloc_new X (.cells zeroA 55))
    have hsel : (Try.prog.info? 55).map (·.size) = some (elA x.1.2).size := by rw [elA_size]; exact (zero_of_info info_el).2
    have HSEL := Lib.hid hsel
    clear hsel
    gi_wp2_with (refine wpListIn_store_into rfl 55 (.tmp 8) (.tmp 19) rfl X.heap.size (elA x.1.2) rfl rfl 55 zeroA HN1.out HSEL.out (by rw [elA_size, zeroA_eq, cellA_size]) (elA_one _) ?_; rw [World.setRow_alloc_new])
    exact hK _ _ ((KeepsOthers.alloc X _).from _) ⟨(below_box0 X _).mono (by omega), (below_box0 X _).cell (p := ⟨w1.heap.size + 1, 0, none⟩) hXb⟩
      ⟨⟨⟨isB_alloc hI.1.1.1 _, hI.1.1.2.alloc _⟩, hI.1.2.alloc (by omega) _⟩, by rw [World.size_alloc]; omega⟩ ⟨X.heap.size, hX, heap_alloc_new _ _, rfl⟩
  case body =>
    rintro lp pre x a' X hl hrec ⟨⟨⟨bB, bS⟩, hB⟩, hs⟩ ⟨B8, hB8, hk8, rfl⟩ hok
    obtain ⟨tx, htx⟩ : ∃ tx, elB x.1.2 = tx := ⟨_, rfl⟩
    have hc8 : X.cell? ⟨B8, 0, none⟩ = some (.string tx) := by rw [cell_of_row X B8 0 _ _ _ hk8, ← htx]; rfl
    have HBB := Lib.hid bB
    have HBS := Lib.hid bS
    have HBX := Lib.hid hB
    have HTE := Lib.hid (show tx.data.toList = x.1.2.txt by rw [← htx, elB_list])
    have hlen := bytesR_len pre
    have htl : tx.size ≤ 64 := by rw [← size_list, HTE.out]; exact x.2
    have h64 := HLE.out
    have HWS := Lib.hid (writeString_any w1.heap.size w1.heap.size (Lib.byteCells (bytesR pre)) tx X HBB.out (by rw [Lib.byteCells_length]; omega) (by omega))
    clear bB bS hB hk8 htx hrec hlen
    gi_wp2_with fail
    refine (CallsIn.inRound lp (callsIn_wide.2 HWS.out)).mono ?_
    rintro e w5 ⟨rfl, hu, hb, hk, hko⟩
    have hbs5 := hk _ _ _ HBS.out (by decide) (by decide)
    have hu' : IsB w1.heap.size w1.heap.size (Lib.byteCells (bytesR (pre ++ [x]))) w5 := by
      rw [bytesR_snoc, Lib.byteCells_append, ← HTE.out, ← Lib.strCells_eq]; exact .inr hu
    have HI5 := Lib.hid (And.intro hu' (And.intro (show Boxed w5 (w1.heap.size + 1) 45 (.slice va l.length vc) from hbs5) (And.intro (HBX.out.trans hb) (And.intro hb hko))))
    have hsz5 := hb.size
    clear hu hu' hb hk hko hbs5
    gi_wp2_with fail
    exact ⟨HI5.out.2.2.2.2.from _, ⟨HI5.out.2.2.2.1, HI5.out.2.1.cell.trans HBS.out.cell.symm⟩, ⟨⟨HI5.out.1, HI5.out.2.1⟩, HI5.out.2.2.1⟩, by omega⟩
  case done =>
    rintro D ys W hD hys ⟨⟨⟨bB, bS⟩, hB⟩, hs⟩ hK
    have hbt : bytesR ys = t.data.toList := by
      unfold bytesR
      have := congrArg (List.map (·.2)) hys
      rw [List.map_map, yl_all] at this
      rw [← HT.out, ← this]; rfl
    have hST := Try.Builder_String_any_k w1.heap.size w1.heap.size (bytesR ys) W (Lib.IsBuilderF.of bB) (by omega)
    rw [show (⟨(bytesR ys).toArray⟩ : ByteArray) = t from ba_of (by rw [hbt])] at hST
    have HST := Lib.hid hST
    have HKD := Lib.hid hK
    have HBW := Lib.hid hB
    have HDb := Lib.hid (show D ≠ w1.heap.size by omega)
    clear hST hK bB bS hB hbt hys
    gi_wp2_with fail
    refine (callsIn_wide.2 HST.out).mono ?_
    rintro e w5 ⟨rfl, _, hb5, hok5⟩
    have hK5 := hok5 D _ HKD.out (fun e => HDb.out (by cases e; rfl)) (fun c fz e => by cases e)
    have HF := Lib.hid (And.intro hK5 (HB1.out.trans ((HBW.out.trans hb5).mono HB1.out.size)))
    clear hb5 hok5 hK5
    gi_wp2_with fail
    refine ⟨by simp, .inl ⟨_, _, rfl, run_takeDeferred HF.out.1, ?_⟩⟩
    exact ⟨.tuple #[.string t, intV 0], by simp [results, Try.f17, go_sem], rfl, fin_below (W0 := w3) HF.out.2 (by have := HB1.out.size; omega) hD HF.out.1⟩
  case stop =>
    rintro D c pre W hD _ h _
    exact h.elim
theorem reverse_at (p t : ByteArray) (r : Int) (h : revR p.data.toList = (t.data.toList, r)) (w : World) :
    Calls Try.prog 17 #[.string p] w fun e w' => e = .returned (.tuple #[.string t, intV r]) ∧ Below w.heap.size w w' := by
  unfold revR at h
  by_cases hp : chk p.data.toList = 0
  · rw [if_neg (by rw [hp]; decide)] at h
    simp only [Prod.mk.injEq] at h
    obtain ⟨ht, rfl⟩ := h
    exact reverse_good p t _ hp rfl ht w
  · rw [if_pos hp] at h
    simp only [Prod.mk.injEq] at h
    obtain ⟨ht, rfl⟩ := h
    obtain rfl : t = ⟨#[]⟩ := ba_of (by rw [← ht])
    have HEL := Lib.hid (elements_bad p hp w)
    clear hp ht
    go_enter Try.func17, Try.ntmps17
    go_wp2_with fail
    refine HEL.out.mono ?_
    rintro e w1 ⟨v, rfl, h1⟩
    have HB1 := Lib.hid h1
    clear h1
    go_wp2_with fail
    refine bodyPost_ret (v := .tuple #[.string ⟨#[]⟩, intV 1]) (by simp [results, Try.results17, go_sem]) rfl ⟨rfl, HB1.out⟩
end Go.Proofs.Ytjjdihkjkmhjnaa
