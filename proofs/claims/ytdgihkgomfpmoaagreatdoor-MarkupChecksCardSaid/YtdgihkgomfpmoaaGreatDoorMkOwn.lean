/- Lists of lexemes of one's own: literals, Clone, Grow, Concat. -/
import Derived.Test.YtdgihkgomfpmoaaGreatDoorMkSame
import Derived.Deep.AppendLies
import Derived.Lib.EndianMore
import Derived.Lib.AppendZerosOnto
import Derived.Laws.AppendOwnNone
import Derived.Lib.SliceRun
import Derived.Lib.Walk
namespace Go.Proofs.YtdgihkgomfpmoaaGreatDoor
set_option linter.unusedSimpArgs false
set_option linter.unusedVariables false
set_option maxRecDepth 100000
open Go.RowKit Go.Deep

def OwnX (B : Nat) (W : World) (v : Value) (L : List Lx) : Prop := W.ownsRow B 41 4 v L.length (L.flatMap cellsX)
theorem OwnX.lex {B : Nat} {W : World} {v : Value} {L : List Lx} (h : OwnX B W v L) : LexAt W v L := LexAt.of_own h
theorem OwnX.below {B : Nat} {W W' : World} {v : Value} {L : List Lx} (h : OwnX B W v L) (hB : Below W.heap.size W W') : OwnX B W' v L := by
  rcases h.2 with ⟨rfl, hn⟩ | ⟨g, cap, cur, rfl, h1, h2, h3⟩
  · exact ⟨h.1, .inl ⟨rfl, hn⟩⟩
  · refine ⟨h.1, .inr ⟨g, cap, cur, rfl, h1, ?_, h3⟩⟩
    rw [hB.block g (Array.getElem?_eq_some_iff.1 h2).1]
    exact h2
theorem OwnX.mono {B B' : Nat} {W : World} {v : Value} {L : List Lx} (h : OwnX B W v L) (hb : B' ≤ B) : OwnX B' W v L := by
  rcases h.2 with h1 | ⟨g, cap, cur, h1, h2, h3⟩
  · exact ⟨h.1, .inl h1⟩
  · exact ⟨h.1, .inr ⟨g, cap, cur, h1, Nat.le_trans hb h2, h3⟩⟩
theorem alloc_below (w : World) (o : Obj) : Below w.heap.size w (w.alloc o) := (Below.refl _ w).alloc (Nat.le_refl _) o
theorem lex_lit (w : World) (L : List Lx) (cs : Array Value) (h : cs.toList = L.flatMap cellsX) (hm : L.length ≤ maxLen) : OwnX w.heap.size (w.alloc (.cells cs 41)) (.slice (some ⟨w.heap.size, 0, none⟩) L.length L.length) L := by
  have := World.ownsRow_lit (base := w.heap.size) (e := 41) (size := 4) w cs L.length (Nat.le_refl _) hm (by rw [← Array.length_toList, h, flatX_len])
  rw [h] at this
  exact this
theorem words_lit (w : World) (xs : List Bs) (cs : Array Value) (h : cs.toList = xs.map sV) (hm : xs.length ≤ maxLen) : WordsAt (w.alloc (.cells cs 9)) (.slice (some ⟨w.heap.size, 0, none⟩) xs.length xs.length) xs := by
  have hcell : ∀ j, (w.alloc (.cells cs 9)).cell? ⟨w.heap.size, j, none⟩ = (xs.map sV)[j]? := fun j => by
    rw [World.cell?_alloc_new, ← h, Array.getElem?_toList]
  refine ⟨_, _, rfl, fun h0 => ⟨w.heap.size, 0, rfl, by simp, fun j hj => ?_⟩⟩
  rw [Nat.zero_add, hcell]
  simp [hj]
theorem flatX_one (L : List Lx) : ∀ u ∈ L.flatMap cellsX, u.oneCell' = true := fun u hu => by
  obtain ⟨x, _, hx⟩ := List.mem_flatMap.1 hu
  unfold cellsX at hx
  simp only [List.mem_cons, List.not_mem_nil, or_false] at hx
  rcases hx with rfl | rfl | rfl | rfl <;> rfl
theorem addr_more (b off j : Nat) : (⟨b, off, none⟩ : Addr).add j = ⟨b, off + j, none⟩ := by unfold Addr.add; split <;> simp_all
/-- the cells of a list, one after the other -/
theorem LexAt.news {W : World} {p : Addr} {n cap : Nat} {L : List Lx} (h : LexAt W (.slice (some p) n cap) L) : ∀ j u, (L.flatMap cellsX)[j]? = some u → W.cell? (p.add j) = some u := by
  intro j u hj
  have hjl : j < L.length * 4 := by rw [← flatX_len]; exact (List.getElem?_eq_some_iff.1 hj).1
  have hi : j / 4 < L.length := by omega
  obtain ⟨b, off, e, hb, h1, h2, h3, h4⟩ := h.elem hi
  cases e
  obtain ⟨g1, g2, g3, g4⟩ := flatX_at L (j / 4) hi
  rw [addr_more]
  have hm : j = j / 4 * 4 ∨ j = j / 4 * 4 + 1 ∨ j = j / 4 * 4 + 2 ∨ j = j / 4 * 4 + 3 := by omega
  rcases hm with hm | hm | hm | hm
  · rw [hm] at hj ⊢; rw [g1] at hj; cases hj; exact h1
  · rw [hm] at hj ⊢; rw [g2] at hj; cases hj; rw [← Nat.add_assoc]; exact h2
  · rw [hm] at hj ⊢; rw [g3] at hj; cases hj; rw [← Nat.add_assoc]; exact h3
  · rw [hm] at hj ⊢; rw [g4] at hj; cases hj; rw [← Nat.add_assoc]; exact h4
theorem LexAt.none_nil {W : World} {n cap : Nat} {L : List Lx} (h : LexAt W (.slice none n cap) L) : L = [] := by
  obtain ⟨a, c, e, hc⟩ := h
  cases e
  rcases Nat.eq_zero_or_pos L.length with h0 | h0
  · exact List.length_eq_zero_iff.1 h0
  · obtain ⟨b, off, e, _⟩ := hc h0
    cases e
theorem info_lx : (Tryz.prog.info? 41).map (fun i => (i.zero, i.size, i.bytes)) = some (some (.agg #[intV 0, .string ⟨#[]⟩, .string ⟨#[]⟩, intV 0]), 4, 48) := by kernel_rfl
theorem run_append_owned_noneC {P : Program} {w : World} (base : Nat) (t ty e : TypeId) (i : TypeInfo) (size c : Nat) (ht : P.underlying t = some (.slice e)) (hi : P.info? e = some i)
    (v : Value) (n : Nat) (xs : List Value) (hown : w.ownsRow base e size v n xs) :
    (Builtin.append_ #[t, t] ty #[v, .slice none 0 c]).run P w = .ok v w := by
  rcases hown.2 with ⟨rfl, rfl⟩ | ⟨g, cap, cur, rfl, _, _, hnc, _⟩
  · simp [Builtin.append_, run_underlying ht, sizeOf, typeInfo, hi, Builtin.lenOf, Builtin.firstCells]
  · simp [Builtin.append_, run_underlying ht, sizeOf, typeInfo, hi, Builtin.lenOf, Builtin.firstCells, hnc, storeCells]
/-- append of a list that may be nil -/
theorem wpList_append_lx {P : Program} {w : World} {ops : Array Oper} {rest : List Oper} {o : Oper} {a : Act} {Q : Exit → Act → World → Prop} (hgd : o.guard = none) (s x : Operand) (t : TypeId)
    (ho : o.op = .call { callee := .builtin .append, args := #[s, x], argTypes := #[t, t] })
    (base : Nat) (e : TypeId) (i : TypeInfo) (z : Value) (bytes : Nat) (ht : P.underlying t = some (.slice e)) (hi : P.info? e = some i) (hz : i.zero = some z)
    (hsize : i.size = 4) (hby : i.bytes = bytes) (hzs : z.cells.size = 4)
    (v : Value) (L : List Lx) (hs : a.eval s = v) (hown : w.ownsRow base e 4 v L.length (L.flatMap cellsX))
    (u : Option Addr) (c : Nat) (M : List Lx) (hx : a.eval x = .slice u M.length c) (hM : LexAt w (.slice u M.length c) M)
    (h63 : L.length + M.length ≤ 1000000) (hbytes : bytes ≤ 1000000) (hbase : base ≤ w.heap.size)
    (h : ∀ v' w', w'.ownsRow base e 4 v' (L ++ M).length ((L ++ M).flatMap cellsX) → w.grownBy w' v.ownBlock → wpList P ops Q rest (a.put o.dst v') w') : wpList P ops Q (o :: rest) a w := by
  cases u with
  | none =>
    have hy := hM.none_nil
    subst hy
    refine wpList_plain hgd fun K hK => ?_
    have hrun := run_append_owned_noneC (P := P) (w := w) base t o.type e i 4 c ht hi v _ _ hown
    unfold Oper.wp
    simp [execOp, ho, resolve, invoke, builtin, hs, hx, hrun, Result.andThen]
    exact hK _ _ (h v w (by simpa using hown) (World.grownBy.refl _ _))
  | some ad =>
    refine wpList_append_own _ hgd s x t ho base e i z 4 bytes ht hi hz hsize hby hzs (by decide) v _ _ hs hown ad M.length c (M.flatMap cellsX) hx (flatX_len M) hM.news (flatX_one M) (by unfold maxLen; omega) ?_ hbase (fun v' w' k1 k2 _ => h v' w' ?_ k2)
    · have := Nat.mul_le_mul h63 hbytes
      omega
    · rw [List.length_append, List.flatMap_append]; exact k1
end Go.Proofs.YtdgihkgomfpmoaaGreatDoor
