/- Maps of pairs to strings. -/
import Derived.Test.YtjjdihkjkmhjnaaGpLit
import Derived.Maps.OwnSet
import Derived.Maps.StringElems
import Derived.DeepKeys4
namespace Go.Proofs.Ytjjdihkjkmhjnaa
set_option linter.unusedSimpArgs false
set_option linter.unusedVariables false
set_option maxRecDepth 100000
open Go.RowKit Go.Deep Go.Maps

abbrev pairV (i j : Nat) : Value := .agg #[intV i, intV j]
theorem laidOut0 : laidOutB Try.prog = true := by kernel_rfl
theorem row_pair : (97 : TypeId) < Try.prog.types.size := of_decide_eq_true (by kernel_rfl)
theorem wide_pair : (match Try.prog.underlying 97 with | some (.array _ _) | some (.struct _) => true | _ => false) = true := by rw [Try.underlying97]
theorem law_pair : Keyed Try.prog 97 := Keyed.of_law (deep_law_laid laidOut0 (m := 2) (by omega) row_pair (by kernel_rfl) wide_pair)
theorem keyT : Try.prog.keyType 97 = true := by kernel_rfl
theorem cells_pair : Try.prog.cellsOf 97 = 2 := by kernel_rfl
def kl (i j : Nat) : Lit := .string (keyBytes [.int .i64 i, .int .i64 j])
theorem wf_small {i : Nat} (h : i ≤ 64) : (Lit.int .i64 (i : Int)).wf = true := WalkArith.wf_i64 (by omega)
theorem cells_int : Try.prog.cellsOf 3 = 1 := by kernel_rfl
theorem types_succ : ∃ m, Try.prog.types.size = m + 1 := ⟨Try.prog.types.size - 1, (Nat.sub_add_cancel (Nat.lt_of_le_of_lt (Nat.zero_le _) row_pair)).symm⟩
theorem lits_int (m i : Nat) (h : i ≤ 64) : Try.prog.keyLits (m + 1) 3 [intV i] = some [.int .i64 i] := by
  unfold Program.keyLits
  simp [Try.underlying3, wf_small h]
theorem key_pair {i j : Nat} (hi : i ≤ 64) (hj : j ≤ 64) : keyOf Try.prog 97 (pairV i j) = some (kl i j) := by
  obtain ⟨m, hm⟩ := types_succ
  have hf : (pairV i j).formed Try.prog 97 = true := by simp [Value.formed, Try.underlying97, cells_pair]
  unfold keyOf
  simp only [Try.underlying97]
  rw [if_pos (by rw [keyT, hf]; rfl)]
  unfold Program.keyLits
  simp only [Try.underlying97, Value.cells]
  rw [if_pos ⟨by rw [cells_pair]; rfl, by kernel_rfl⟩, hm]
  simp [cells_int, lits_int m i hi, lits_int m j hj, kl]
theorem kl_inj {i j a b : Nat} (hi : i ≤ 64) (hj : j ≤ 64) (ha : a ≤ 64) (hb : b ≤ 64) (h : kl i j = kl a b) : i = a ∧ j = b := by
  have := law_pair.inj (key_pair hi hj) (h ▸ key_pair ha hb)
  simp [pairV] at this
  omega
/-- block b is a map of at most n entries that holds what F says -/
def MapAt (W : World) (b n : Nat) (F : Fn) : Prop := ∃ D : DataW Unit, W.ownsMap Try.prog 97 (plainElem Try.prog 9) b n D ∧
  ∀ i j, i ≤ 64 → j ≤ 64 → match F i j with
    | none => Maps.has D (kl i j) = false
    | some s => Maps.has D (kl i j) = true ∧ (∀ zd, D.atKey (kl i j) zd = .lit (.string s.data.toList)) ∧ s.size ≤ maxLen
theorem MapAt.lt {W : World} {b n : Nat} {F : Fn} (h : MapAt W b n F) : b < W.heap.size := h.elim fun _ h => h.1.lt
theorem MapAt.kept {W W' : World} {b n : Nat} {F : Fn} {row : Option Nat} (h : MapAt W b n F) (hg : W.grownBy W' row) (hne : some b ≠ row) : MapAt W' b n F := by
  obtain ⟨D, h1, h2⟩ := h
  exact ⟨D, h1.kept hg hne, h2⟩
theorem MapAt.below {W W' : World} {b n : Nat} {F : Fn} (h : MapAt W b n F) (hb : Below W.heap.size W W') : MapAt W' b n F :=
  h.kept (row := none) ⟨hb.os, hb.tape, hb.output, hb.size, fun k hk _ => hb.block k hk⟩ (by simp)
theorem MapAt.mono {W : World} {b n m : Nat} {F : Fn} (h : MapAt W b n F) (hn : n ≤ m) : MapAt W b m F := by
  obtain ⟨D, h1, h2⟩ := h
  exact ⟨D, h1.mono hn, h2⟩
theorem MapAt.congr {W : World} {b n : Nat} {F G : Fn} (h : MapAt W b n F) (e : ∀ i j, F i j = G i j) : MapAt W b n G := by
  obtain ⟨D, h1, h2⟩ := h
  exact ⟨D, h1, fun i j hi hj => by rw [← e i j]; exact h2 i j hi hj⟩
theorem MapAt.block {W : World} {b n : Nat} {F : Fn} (h : MapAt W b n F) : ∃ es clock, W.heap[b]? = some (.map es clock) := by
  obtain ⟨D, ⟨es, clock, hb, _⟩, _⟩ := h
  exact ⟨es, clock, hb⟩
theorem MapAt.made (W : World) : MapAt (W.alloc (.map #[] 0)) W.heap.size 0 (fun _ _ => none) :=
  ⟨.map [], World.ownsMap_made W _ _ _, fun i j _ _ => rfl⟩
theorem zero_str (W : World) : (zeroValue 9).run Try.prog W = .ok (.string ⟨#[]⟩) W := by kernel_rfl
/-- 'v, ok := f[pair{i, j}]' -/
theorem MapAt.look {W : World} {b n : Nat} {F : Fn} (h : MapAt W b n F) {i j : Nat} (hi : i ≤ 64) (hj : j ≤ 64) :
    ∃ s : ByteArray, (Instr.lookup 99 (.map (some b)) (pairV i j) true).run Try.prog W = .ok (.tuple #[.string s, .bool (F i j).isSome]) W ∧ ∀ k, F i j = some k → s = k ∧ k.size ≤ maxLen := by
  obtain ⟨D, h1, h2⟩ := h
  obtain ⟨v, ps, hrun, hv⟩ := h1.look_ok (zd := .lit (.string [])) (zp := []) law_pair Try.underlying99 (zero_str W) (plainElem_string Try.underlying9 (by decide)) (key_pair hi hj)
  obtain ⟨s, rfl, hz, _⟩ := plainElem_string_inv Try.underlying9 hv
  have h3 := h2 i j hi hj
  refine ⟨s, ?_, fun k hk => ?_⟩
  · rw [hrun]
    cases hF : F i j with
    | none => rw [hF] at h3; rw [h3]; rfl
    | some k => rw [hF] at h3; rw [h3.1]; rfl
  · rw [hk] at h3
    obtain ⟨g1, g2, g3⟩ := h3
    have := g2 (.lit (.string []))
    rw [this] at hz
    simp only [Prod.mk.injEq, DataW.lit.injEq, Lit.string.injEq] at hz
    exact ⟨ba_of hz.1.symm, g3⟩
def setF (F : Fn) (a b : Nat) (s : ByteArray) : Fn := fun i j => if i = a ∧ j = b then some s else F i j
/-- 'f[pair{i, j}] = s' -/
theorem MapAt.store {W : World} {b n : Nat} {F : Fn} (h : MapAt W b n F) (hn : n < maxLen) {i j : Nat} (hi : i ≤ 64) (hj : j ≤ 64) (s : ByteArray) (hs : s.size ≤ maxLen) :
    ∃ W', (Instr.mapUpdate 99 (.map (some b)) (pairV i j) (.string s)).run Try.prog W = .ok () W' ∧ MapAt W' b (n + 1) (setF F i j s) ∧ W.grownBy W' (some b) := by
  obtain ⟨D, h1, h2⟩ := h
  have hm := h1.isMap
  obtain ⟨W', hrun, h3, h4⟩ := h1.update law_pair Try.underlying99 hn (key_pair hi hj) (plainElem_string Try.underlying9 hs)
  have hk : WideAt.IsKeyLit (kl i j) := law_pair.key (key_pair hi hj)
  refine ⟨W', hrun, ⟨_, h3, fun a c ha hc => ?_⟩, h4⟩
  unfold setF
  by_cases e : a = i ∧ c = j
  · obtain ⟨rfl, rfl⟩ := e
    rw [if_pos ⟨rfl, rfl⟩]
    exact ⟨has_put_same hm hk _, fun zd => atKey_put_same hm hk _ zd, hs⟩
  · rw [if_neg e]
    have hne : kl a c ≠ kl i j := fun he => e (kl_inj ha hc hi hj he)
    have := h2 a c ha hc
    cases hF : F a c with
    | none => rw [hF] at this; exact (has_put_other hne _).trans this
    | some k =>
      rw [hF] at this
      exact ⟨(has_put_other hne _).trans this.1, fun zd => (atKey_put_other hne _ zd).trans (this.2.1 zd), this.2.2⟩
/-! ### at the operations -/
theorem wpList_look {w : World} {ops : Array Oper} {rest : List Oper} {o : Oper} {a : Act} {Q : Exit → Act → World → Prop} (hg : o.guard = none) (m x : Operand) (hop : o.op = Op.lookup 99 m x true)
    {b n : Nat} {F : Fn} (h : MapAt w b n F) (hm : a.eval m = .map (some b)) {i j : Nat} (hx : a.eval x = pairV i j) (hi : i ≤ 64) (hj : j ≤ 64)
    (hK : ∀ s : ByteArray, (∀ k, F i j = some k → s = k ∧ k.size ≤ maxLen) → wpList Try.prog ops Q rest (a.put o.dst (.tuple #[.string s, .bool (F i j).isSome])) w) : wpList Try.prog ops Q (o :: rest) a w := by
  refine wpList_plain hg fun K' hK' => ?_
  obtain ⟨s, hrun, hs⟩ := h.look hi hj
  unfold Oper.wp
  simp only [execOp, hop, hm, hx, Sem.run_bind, hrun, Result.andThen_ok]
  exact hK' _ _ (hK s hs)
theorem wpList_set {w : World} {ops : Array Oper} {rest : List Oper} {o : Oper} {a : Act} {Q : Exit → Act → World → Prop} (hg : o.guard = none) (m x y : Operand) (hop : o.op = Op.mapUpdate 99 m x y ∨ o.op = Op.insert 99 m x y)
    {b n : Nat} {F : Fn} (h : MapAt w b n F) (hn : n < maxLen) (hm : a.eval m = .map (some b)) {i j : Nat} (hx : a.eval x = pairV i j) (hi : i ≤ 64) (hj : j ≤ 64) {s : ByteArray} (hy : a.eval y = .string s) (hs : s.size ≤ maxLen)
    (hK : ∀ w', MapAt w' b (n + 1) (setF F i j s) → w.grownBy w' (some b) → wpList Try.prog ops Q rest (a.put o.dst undef) w') : wpList Try.prog ops Q (o :: rest) a w := by
  refine wpList_plain hg fun K' hK' => ?_
  obtain ⟨w', hrun, h1, h2⟩ := h.store hn hi hj s hs
  unfold Oper.wp
  rcases hop with hop | hop
  all_goals
    simp only [execOp, hop, hm, hx, hy, Sem.run_bind, hrun, Result.andThen_ok]
    exact hK' _ _ (hK w' h1 h2)
end Go.Proofs.Ytjjdihkjkmhjnaa
