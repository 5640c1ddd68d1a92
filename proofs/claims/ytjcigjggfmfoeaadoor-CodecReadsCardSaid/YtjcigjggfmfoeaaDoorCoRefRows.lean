/- The open lists as the reference keeps them: a list for the whole first. -/
import Derived.Test.YtjcigjggfmfoeaaDoorCoRead
import Derived.Test.YtjcigjggfmfoeaaDoorCoDecP
namespace Go.Proofs.YtjcigjggfmfoeaaDoor
set_option linter.unusedSimpArgs false
set_option linter.unusedVariables false
set_option maxRecDepth 100000
open Go.RowKit Go.Deep

theorem Opens.start (w0 : World) : Opens (w0.alloc (.cells #[.slice none 0 0] 22)) w0.heap.size (fun b => w0.heap.size < b) (.slice (some ⟨w0.heap.size, 0, none⟩) 1 1) [.slice none 0 0] [[]] := by
  have one : ∀ (i : Nat) (s : Value), [Value.slice none 0 0][i]? = some s → i = 0 ∧ s = .slice none 0 0 := fun i s h => by
    cases i with
    | zero => simp at h; exact ⟨rfl, h.symm⟩
    | succ i => simp at h
  refine ⟨World.ownsRow_lit w0 #[.slice none 0 0] 1 (Nat.le_refl _) (by unfold maxLen; omega) rfl, fun i s l h1 h2 => ?_, fun i j s s' b h1 h2 h3 h4 => ?_, fun i s b h1 h2 => ?_, fun b hb => ?_, fun b hb => Nat.le_of_lt hb, fun b hb => ?_⟩
  · obtain ⟨rfl, rfl⟩ := one i s h1
    simp at h2
    subst h2
    exact ⟨[], World.ownsRow_nil _ _ _ _, by rw [CsOf]⟩
  · rw [(one i s h1).1, (one j s' h2).1]
  · rw [(one i s h1).2] at h2; cases h2
  · simp only [Value.ownBlock, Option.some.injEq] at hb; omega
  · rw [World.size_alloc] at hb; omega
/-- a value is put into the innermost list, its cells at once -/
theorem Opens.added1 {W WL w2 W5 : World} {B g g2 n cap cap2 : Nat} {P : Nat → Prop} {s u : Value} {sl cs : List Value} {ls : List (List Val)} {l : List Val} {x : Val}
    (h : Opens W B P (.slice (some ⟨g, 0, none⟩) (n + 1) cap) (sl ++ [s]) (ls ++ [l])) (hn : ls.length = n ∧ sl.length = n) (hbl : Below W.heap.size W WL) (hsl : WL.heap.size = W.heap.size + 1)
    (h2 : w2.ownsRow B 24 4 (.slice (some ⟨g2, 0, none⟩) (l.length + 1) cap2) (l.length + 1) (cs ++ [intV x.kd, intV x.nm, .string x.tx, u])) (hgrow : WL.grownBy w2 s.ownBlock) (hat : s.ownBlock = some g2 ∨ g2 = W.heap.size + 1)
    (hgg : g ≠ g2) (hcs : CsOf W P cs l) (hx : VAt W P (.agg #[intV x.kd, intV x.nm, .string x.tx, u]) x)
    (hst : w2.setCell ⟨g, n, none⟩ (.slice (some ⟨g2, 0, none⟩) (l.length + 1) cap2) = W5) :
    Opens W5 B (fun b => P b ∧ some g2 ≠ some b) (.slice (some ⟨g, 0, none⟩) (n + 1) cap) (sl ++ [.slice (some ⟨g2, 0, none⟩) (l.length + 1) cap2]) (ls ++ [l ++ [x]]) ∧ Below B W W5 := by
  have hgs : some g ≠ s.ownBlock := fun e => (h.av sl.length s g (by simp) e.symm).2 rfl
  have hg := h.own.lt g rfl
  have hown := h.own
  rw [List.length_append, hn.1] at hown
  have h1 : w2.ownsRow B 22 1 (.slice (some ⟨g, 0, none⟩) (n + 1) cap) (n + 1) (sl ++ [s]) := own_keep hown fun k hk => by
    cases hk
    exact (hgrow.block g (by omega) hgs).trans (hbl.block g hg.2)
  have e2 := put_last (b := .slice (some ⟨g2, 0, none⟩) (l.length + 1) cap2) h1 hn.2
  have h5 : ∀ k, k ≠ g → W5.heap[k]? = w2.heap[k]? := fun k hk => by rw [← hst]; exact Below.heap_setCell _ _ _ _ hk
  have h6 : W5.heap.size = w2.heap.size := by rw [← hst]; simp [World.setCell]
  rw [hst] at e2
  have e1 : W5.ownsRow B 24 4 (.slice (some ⟨g2, 0, none⟩) (l.length + 1) cap2) (l.length + 1) (cs ++ [intV x.kd, intV x.nm, .string x.tx, u]) := own_keep h2 fun k hk => by cases hk; exact h5 _ (Ne.symm hgg)
  have hsz := hgrow.size
  refine ⟨h.add (hn.1 ▸ e2) e1 (hcs.app (cs_one hx)) (by omega) (fun k hk hk1 hk2 => ?_) ?_, ?_⟩
  · have hkg : k ≠ g := fun e => hk1 (by rw [e]; rfl)
    rw [h5 k hkg, hgrow.block k (by omega) hk2, hbl.block k hk]
  · rcases hat with hat | hat
    · exact .inl hat.symm
    · exact .inr ⟨g2, rfl, by omega⟩
  · have hB : B ≤ W.heap.size := by omega
    obtain ⟨c, ho, _⟩ := h.last
    have hb : Below B w2 W5 := by rw [← hst]; exact (Below.refl _ _).setCell (p := ⟨g, _, none⟩) hg.1 _
    exact (((hbl.mono hB).grown hgrow (by omega) (fun k hk => (ho.lt k hk).1))).trans hb
/-- where the reference stands: what is left reads as R -/
def RInv (ls : List (List Val)) (D : List UInt8) (R : Option Val) : Prop := (∃ st, ls = [] :: st ∧ rd st.reverse D = R) ∨ (∃ v, ls = [[v]] ∧ push v [] D = R)
/-- .. and with a value that has just been read -/
def RPush (x : Val) (ls : List (List Val)) (D : List UInt8) (R : Option Val) : Prop := ∃ st, ls = [] :: st ∧ push x st.reverse D = R
theorem RPush.add {x : Val} {ls : List (List Val)} {l : List Val} {D : List UInt8} {R : Option Val} (h : RPush x (ls ++ [l]) D R) : RInv (ls ++ [l ++ [x]]) D R := by
  obtain ⟨st, h1, h2⟩ := h
  rcases List.eq_nil_or_concat st with rfl | ⟨st', l', rfl⟩
  · rcases ls with _ | ⟨a, ls⟩
    · simp at h1
      subst h1
      exact .inr ⟨x, rfl, h2⟩
    · simp at h1
  · rcases ls with _ | ⟨a, ls⟩
    · simp at h1
    · rw [List.cons_append, List.cons.injEq] at h1
      obtain ⟨rfl, h1⟩ := h1
      rw [List.concat_eq_append] at h1 h2
      have := List.append_inj' h1 rfl
      obtain ⟨rfl, h3⟩ := this
      simp at h3
      subst h3
      refine .inl ⟨ls ++ [l ++ [x]], rfl, ?_⟩
      rw [List.reverse_append, List.reverse_singleton, List.singleton_append] at h2 ⊢
      rw [push_cons] at h2
      exact h2
theorem RInv.list {st : List (List Val)} {r : List UInt8} {R : Option Val} (h : rd st.reverse (108 :: r) = R) : RInv (([] :: st) ++ [[]]) r R := by
  refine .inl ⟨st ++ [[]], rfl, ?_⟩
  rw [List.reverse_append, ← h, rd_list]; rfl
theorem RPush.of_end {st : List (List Val)} {ls' : List (List Val)} {l : List Val} {r : List UInt8} {R : Option Val} (h : rd st.reverse (101 :: r) = R) (hl : [] :: st = ls' ++ [l]) (hn : ls' ≠ []) : RPush (mkL l) ls' r R := by
  rcases ls' with _ | ⟨a, ls⟩
  · exact absurd rfl hn
  · rw [List.cons_append, List.cons.injEq] at hl
    obtain ⟨rfl, rfl⟩ := hl
    refine ⟨ls, rfl, ?_⟩
    rw [List.reverse_append, List.reverse_singleton, List.singleton_append, rd_cons_end] at h
    exact h
theorem RInv.last {ls : List (List Val)} {R : Option Val} (h : RInv ls [] R) : (∃ v, ls = [[v]] ∧ R = some v) ∨ ((ls = [[]] ∨ 2 ≤ ls.length) ∧ R = none) := by
  rcases h with ⟨st, rfl, h⟩ | ⟨v, rfl, h⟩
  · rw [rd_nil] at h
    refine .inr ⟨?_, h.symm⟩
    rcases st with _ | ⟨a, st⟩
    · exact .inl rfl
    · exact .inr (by simp)
  · rw [push_nil, if_pos rfl] at h
    exact .inl ⟨v, rfl, h.symm⟩
end Go.Proofs.YtjcigjggfmfoeaaDoor
