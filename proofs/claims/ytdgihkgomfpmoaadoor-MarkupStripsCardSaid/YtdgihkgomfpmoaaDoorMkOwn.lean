/- Lists of lexemes of one's own: literals, Clone, Grow, Concat. -/
import Derived.Test.YtdgihkgomfpmoaaDoorMkSame
import Derived.Deep.AppendLies
import Derived.Lib.EndianMore
import Derived.Lib.AppendZerosOnto
import Derived.Laws.AppendOwnNone
import Derived.Lib.SliceRun
import Derived.Lib.Walk
namespace Go.Proofs.YtdgihkgomfpmoaaDoor
set_option linter.unusedSimpArgs false
set_option linter.unusedVariables false
set_option maxRecDepth 100000
open Go.RowKit Go.Deep

def OwnX (B : Nat) (W : World) (v : Value) (L : List Lx) : Prop := W.ownsRow B 36 4 v L.length (L.flatMap cellsX)
theorem OwnX.lex {B : Nat} {W : World} {v : Value} {L : List Lx} (h : OwnX B W v L) : LexAt W v L := LexAt.of_own h
theorem OwnX.below {B : Nat} {W W' : World} {v : Value} {L : List Lx} (h : OwnX B W v L) (hB : Below W.heap.size W W') : OwnX B W' v L := by
  rcases h.2 with ⟨rfl, hn⟩ | ⟨g, cap, cur, rfl, h1, h2, h3⟩
  · exact ⟨h.1, .inl ⟨rfl, hn⟩⟩
  · refine ⟨h.1, .inr ⟨g, cap, cur, rfl, h1, ?_, h3⟩⟩
    rw [hB.block g (Array.getElem?_eq_some_iff.1 h2).1]
    exact h2
theorem OwnX.mono {B B' : Nat} {W : World} {v : Value} {L : List Lx} (h : OwnX B W v L) (hb : B' ≤ B) : OwnX B' W v L := by
  rcases h.2 with h1 | ⟨g, cap, cur, h1, h2, h3⟩
  · exact ⟨h.1, .inl h1⟩
  · exact ⟨h.1, .inr ⟨g, cap, cur, h1, Nat.le_trans hb h2, h3⟩⟩
theorem alloc_below (w : World) (o : Obj) : Below w.heap.size w (w.alloc o) := (Below.refl _ w).alloc (Nat.le_refl _) o
theorem lex_lit (w : World) (L : List Lx) (cs : Array Value) (h : cs.toList = L.flatMap cellsX) (hm : L.length ≤ maxLen) : OwnX w.heap.size (w.alloc (.cells cs 36)) (.slice (some ⟨w.heap.size, 0, none⟩) L.length L.length) L := by
  have := World.ownsRow_lit (base := w.heap.size) (e := 36) (size := 4) w cs L.length (Nat.le_refl _) hm (by rw [← Array.length_toList, h, flatX_len])
  rw [h] at this
  exact this
theorem words_lit (w : World) (xs : List Bs) (cs : Array Value) (h : cs.toList = xs.map sV) (hm : xs.length ≤ maxLen) : WordsAt (w.alloc (.cells cs 9)) (.slice (some ⟨w.heap.size, 0, none⟩) xs.length xs.length) xs := by
  have hcell : ∀ j, (w.alloc (.cells cs 9)).cell? ⟨w.heap.size, j, none⟩ = (xs.map sV)[j]? := fun j => by
    rw [World.cell?_alloc_new, ← h, Array.getElem?_toList]
  refine ⟨_, _, rfl, fun h0 => ⟨w.heap.size, 0, rfl, by simp, fun j hj => ?_⟩⟩
  rw [Nat.zero_add, hcell]
  simp [hj]
theorem flatX_one (L : List Lx) : ∀ u ∈ L.flatMap cellsX, u.oneCell' = true := fun u hu => by
  obtain ⟨x, _, hx⟩ := List.mem_flatMap.1 hu
  unfold cellsX at hx
  simp only [List.mem_cons, List.not_mem_nil, or_false] at hx
  rcases hx with rfl | rfl | rfl | rfl <;> rfl
theorem addr_more (b off j : Nat) : (⟨b, off, none⟩ : Addr).add j = ⟨b, off + j, none⟩ := by unfold Addr.add; split <;> simp_all
/-- the cells of a list, one after the other -/
theorem LexAt.news {W : World} {p : Addr} {n cap : Nat} {L : List Lx} (h : LexAt W (.slice (some p) n cap) L) : ∀ j u, (L.flatMap cellsX)[j]? = some u → W.cell? (p.add j) = some u := by
  intro j u hj
  have hjl : j < L.length * 4 := by rw [← flatX_len]; exact (List.getElem?_eq_some_iff.1 hj).1
  have hi : j / 4 < L.length := by omega
  obtain ⟨b, off, e, hb, h1, h2, h3, h4⟩ := h.elem hi
  cases e
  obtain ⟨g1, g2, g3, g4⟩ := flatX_at L (j / 4) hi
  rw [addr_more]
  have hm : j = j / 4 * 4 ∨ j = j / 4 * 4 + 1 ∨ j = j / 4 * 4 + 2 ∨ j = j / 4 * 4 + 3 := by omega
  rcases hm with hm | hm | hm | hm
  · rw [hm] at hj ⊢; rw [g1] at hj; cases hj; exact h1
  · rw [hm] at hj ⊢; rw [g2] at hj; cases hj; rw [← Nat.add_assoc]; exact h2
  · rw [hm] at hj ⊢; rw [g3] at hj; cases hj; rw [← Nat.add_assoc]; exact h3
  · rw [hm] at hj ⊢; rw [g4] at hj; cases hj; rw [← Nat.add_assoc]; exact h4
theorem LexAt.none_nil {W : World} {n cap : Nat} {L : List Lx} (h : LexAt W (.slice none n cap) L) : L = [] := by
  obtain ⟨a, c, e, hc⟩ := h
  cases e
  rcases Nat.eq_zero_or_pos L.length with h0 | h0
  · exact List.length_eq_zero_iff.1 h0
  · obtain ⟨b, off, e, _⟩ := hc h0
    cases e
theorem info_lx : (Tryd.prog.info? 36).map (fun i => (i.zero, i.size, i.bytes)) = some (some (.agg #[intV 0, .string ⟨#[]⟩, .string ⟨#[]⟩, intV 0]), 4, 48) := by kernel_rfl
theorem run_append_owned_noneC {P : Program} {w : World} (base : Nat) (t ty e : TypeId) (i : TypeInfo) (size c : Nat) (ht : P.underlying t = some (.slice e)) (hi : P.info? e = some i)
    (v : Value) (n : Nat) (xs : List Value) (hown : w.ownsRow base e size v n xs) :
    (Builtin.append_ #[t, t] ty #[v, .slice none 0 c]).run P w = .ok v w := by
  rcases hown.2 with ⟨rfl, rfl⟩ | ⟨g, cap, cur, rfl, _, _, hnc, _⟩
  · simp [Builtin.append_, run_underlying ht, sizeOf, typeInfo, hi, Builtin.lenOf, Builtin.firstCells]
  · simp [Builtin.append_, run_underlying ht, sizeOf, typeInfo, hi, Builtin.lenOf, Builtin.firstCells, hnc, storeCells]
/-- append of a list that may be nil -/
theorem wpList_append_lx {P : Program} {w : World} {ops : Array Oper} {rest : List Oper} {o : Oper} {a : Act} {Q : Exit → Act → World → Prop} (hgd : o.guard = none) (s x : Operand) (t : TypeId)
    (ho : o.op = .call { callee := .builtin .append, args := #[s, x], argTypes := #[t, t] })
    (base : Nat) (e : TypeId) (i : TypeInfo) (z : Value) (bytes : Nat) (ht : P.underlying t = some (.slice e)) (hi : P.info? e = some i) (hz : i.zero = some z)
    (hsize : i.size = 4) (hby : i.bytes = bytes) (hzs : z.cells.size = 4)
    (v : Value) (L : List Lx) (hs : a.eval s = v) (hown : w.ownsRow base e 4 v L.length (L.flatMap cellsX))
    (u : Option Addr) (c : Nat) (M : List Lx) (hx : a.eval x = .slice u M.length c) (hM : LexAt w (.slice u M.length c) M)
    (h63 : L.length + M.length ≤ 1000000) (hbytes : bytes ≤ 1000000) (hbase : base ≤ w.heap.size)
    (h : ∀ v' w', w'.ownsRow base e 4 v' (L ++ M).length ((L ++ M).flatMap cellsX) → w.grownBy w' v.ownBlock → wpList P ops Q rest (a.put o.dst v') w') : wpList P ops Q (o :: rest) a w := by
  cases u with
  | none =>
    have hy := hM.none_nil
    subst hy
    refine wpList_plain hgd fun K hK => ?_
    have hrun := run_append_owned_noneC (P := P) (w := w) base t o.type e i 4 c ht hi v _ _ hown
    unfold Oper.wp
    simp [execOp, ho, resolve, invoke, builtin, hs, hx, hrun, Result.andThen]
    exact hK _ _ (h v w (by simpa using hown) (World.grownBy.refl _ _))
  | some ad =>
    refine wpList_append_own _ hgd s x t ho base e i z 4 bytes ht hi hz hsize hby hzs (by decide) v _ _ hs hown ad M.length c (M.flatMap cellsX) hx (flatX_len M) hM.news (flatX_one M) (by unfold maxLen; omega) ?_ hbase (fun v' w' k1 k2 _ => h v' w' ?_ k2)
    · have := Nat.mul_le_mul h63 hbytes
      omega
    · rw [List.length_append, List.flatMap_append]; exact k1
set_option maxHeartbeats 1000000 in
theorem clone_any (L : List Lx) (hl : L.length ≤ 1000000) (v : Value) (w : World) (hv : LexAt w v L) :
    Calls Tryd.prog 24 #[v] w fun e w' => ∃ u, e = .returned u ∧ OwnX w.heap.size w' u L ∧ Below w.heap.size w w' := by
  obtain ⟨i0, hi, hz0, hz1, hz2⟩ := info_parts info_lx
  have HV := Lib.hid hv
  obtain ⟨a, c, rfl⟩ := hv.slice
  cases a with
  | none =>
    obtain rfl : L = [] := hv.none_nil
    clear hv
    have hnil : ∀ W, Sem.run Tryd.prog (binOp .eql 22 (.slice none 0 c) (.slice none 0 0)) W = .ok (.bool true) W := fun W => Lib.run_eql_slice_nil W 22 36 _ _ _ 0 0 Tryd.underlying22
    go_enter Tryd.func24, Tryd.ntmps24
    go_wp2
    go_ret
    exact ⟨_, rfl, World.ownsRow_nil _ _ _ _, Below.refl _ _⟩
  | some p =>
    have HROW := Lib.hid (lex_lit w [] #[] rfl (by decide))
    have HM := Lib.hid (hv.below (alloc_below w (.cells #[] 36)))
    have hnil : ∀ W, Sem.run Tryd.prog (binOp .eql 22 (.slice (some p) L.length c) (.slice none 0 0)) W = .ok (.bool false) W := fun W => Lib.run_eql_slice_nil W 22 36 _ _ _ 0 0 Tryd.underlying22
    clear hv
    go_enter Tryd.func24, Tryd.ntmps24
    go_wp2_with (at_builtin; refine wpList_append_lx rfl _ _ 22 rfl w.heap.size 36 i0 _ 48 Tryd.underlying22 hi hz0 hz1 hz2 rfl _ [] rfl HROW.out (some p) c L rfl HM.out (by simpa using hl) (by decide) (by simp) ?_)
    intro v' w1 hown hgrow
    have hB1 : Below w.heap.size w w1 := ((Below.refl _ w).alloc (Nat.le_refl _) _).grown hgrow (by simp) (fun k hk => (HROW.out.lt k hk).1)
    have HOWN := Lib.hid hown
    clear hown hgrow
    go_wp2
    go_ret
    exact ⟨_, rfl, HOWN.out, hB1⟩
set_option maxHeartbeats 4000000 in
theorem grow_any (n : Nat) (hn : n ≤ 1000000) (w : World) :
    Calls Tryd.prog 32 #[.slice none 0 0, intV n] w fun e w' => ∃ v, e = .returned v ∧ OwnX w.heap.size w' v [] ∧ Below w.heap.size w w' := by
  obtain ⟨i0, hi, hz0, hz1, hz2⟩ := info_parts info_lx
  have hnn : ¬ (n : Int) < 0 := by omega
  have hw1 : IntKind.i64.wrap ((n : Int) - 0) = (n : Int) := by rw [Int.sub_zero]; exact IntWalk.i64_in _ (by omega)
  rcases Nat.eq_zero_or_pos n with rfl | h0
  · go_enter Tryd.func32, Tryd.ntmps32
    go_wp2
    go_ret
    exact ⟨_, rfl, World.ownsRow_nil _ _ _ _, Below.refl _ _⟩
  · have hgt : (0 : Int) < (n : Int) := by omega
    have hrz : ∀ ty, (Builtin.append_ #[22, 3] ty #[.slice none 0 0, .int .i64 (n : Int)]).run Tryd.prog w =
        .ok (.slice (some ⟨w.heap.size, 0, none⟩) (0 + n) (grownCap w (0 + n) 0 36)) (w.drew.alloc (.cells (#[] ++ Builtin.zeroCells (Value.agg #[intV 0, .string ⟨#[]⟩, .string ⟨#[]⟩, intV 0]).cells n ++ Builtin.zeroCells (Value.agg #[intV 0, .string ⟨#[]⟩, .string ⟨#[]⟩, intV 0]).cells (grownCap w (0 + n) 0 36 - (0 + n))) 36)) := fun ty =>
      Lib.run_append_grow_zeros w 22 3 ty 36 i0 (.agg #[intV 0, .string ⟨#[]⟩, .string ⟨#[]⟩, intV 0]) .i64 .i64 Tryd.underlying22 Tryd.underlying3 hi hz0 none 0 0 [] (run_firstCells_none w.drew i0.size 0 0 0) n h0 (by omega) (by omega) (by omega) (by rw [hz2]; omega) (by
        refine growslice_fits (by omega) ?_
        rw [hz2]; omega)
    have hG := grownCap_le_maxLen w (0 + n) 0 36 (by unfold maxLen; omega)
    have hGn : 0 + n ≤ grownCap w (0 + n) 0 36 := grownCap_ge w _ _ _
    obtain ⟨G, hGG⟩ : ∃ G, grownCap w (0 + n) 0 36 = G := ⟨_, rfl⟩
    rw [hGG] at hrz hG hGn
    obtain ⟨cur, hcur⟩ : ∃ cur, (#[] ++ Builtin.zeroCells (Value.agg #[intV 0, .string ⟨#[]⟩, .string ⟨#[]⟩, intV 0]).cells n ++ Builtin.zeroCells (Value.agg #[intV 0, .string ⟨#[]⟩, .string ⟨#[]⟩, intV 0]).cells (G - (0 + n)) : Array Value) = cur := ⟨_, rfl⟩
    have hcs : cur.size = G * 4 := by
      rw [← hcur]
      simp [Builtin.zeroCells, Value.cells]; omega
    rw [hcur] at hrz
    have HO := Lib.hid (World.ownsRow_made (base := w.heap.size) (e := 36) (size := 4) w.drew cur G (Nat.le_refl _) hG hcs)
    have HB := Lib.hid ((below_drewN_n w.heap.size w 0).trans ((show Below w.heap.size (w.drewN 0) w.drew from ⟨rfl, rfl, rfl, Nat.le_refl _, fun _ _ => rfl⟩).alloc (Nat.le_refl _) (.cells cur 36)))
    have hG63 : G ≤ 9223372036854775807 := by unfold maxLen at hG; omega
    clear hGG hcur hcs hG
    go_enter Tryd.func32, Tryd.ntmps32
    go_wp2_with (at_builtin; refine Lib.wpList_append_run _ rfl _ _ _ _ rfl _ _ rfl rfl _ _ (hrz _) ?_)
    go_ret
    exact ⟨_, rfl, HO.out, HB.out⟩
end Go.Proofs.YtdgihkgomfpmoaaDoor
