/- Lists of one's own, in a row of one's own: one more list, one element more in a list. -/
import Derived.Test.YteceahbnafaeoaaSqLib
import Derived.Deep.AppendLies
import Derived.OneCell
namespace Go.Proofs.Yteceahbnafaeoaa
set_option linter.unusedSimpArgs false
set_option linter.unusedVariables false
open Go.RowKit Go.Deep

theorem own_keepP {W W' : World} {B : Nat} {e : TypeId} {size : Nat} {v : Value} {n : Nat} {xs : List Value} (h : W.ownsRow B e size v n xs) (hk : ∀ g, v.ownBlock = some g → W'.heap[g]? = W.heap[g]?) : W'.ownsRow B e size v n xs := by
  refine ⟨h.1, ?_⟩
  rcases h.2 with hn | ⟨g, cap, cur, rfl, hb, hg, rest⟩
  · exact .inl hn
  · exact .inr ⟨g, cap, cur, rfl, hb, (hk g rfl).trans hg, rest⟩
theorem own_belowP {W W' : World} {B : Nat} {e : TypeId} {size : Nat} {v : Value} {n : Nat} {xs : List Value} (h : W.ownsRow B e size v n xs) (hB : Below W.heap.size W W') : W'.ownsRow B e size v n xs :=
  own_keepP h fun g hg => hB.block g (h.lt g hg).2
theorem rows_apartP {w : World} {b1 b2 : Nat} {e1 e2 : TypeId} {s1 s2 n1 n2 : Nat} {v1 v2 : Value} {x1 x2 : List Value} (h1 : w.ownsRow b1 e1 s1 v1 n1 x1) (h2 : w.ownsRow b2 e2 s2 v2 n2 x2) (hne : e1 ≠ e2) : v1.ownBlock = none ∨ v1.ownBlock ≠ v2.ownBlock := by
  rcases h1.2 with ⟨rfl, _⟩ | ⟨g1, cap1, cur1, rfl, _, hg1, _⟩
  · exact .inl rfl
  · right
    rcases h2.2 with ⟨rfl, _⟩ | ⟨g2, cap2, cur2, rfl, _, hg2, _⟩
    · simp [Value.ownBlock]
    · simp only [Value.ownBlock]
      intro e
      injection e with e
      subst e
      rw [hg1] at hg2
      simp only [Option.some.injEq, Obj.cells.injEq] at hg2
      exact hne hg2.2.1
theorem int_ne_ints : 3 ≠ 22 := by decide
/-- lists of one's own; sl are their slices -/
structure Piles (W : World) (B : Nat) (v : Value) (sl : List Value) (L : List (List Int)) : Prop where
  own : W.ownsRow B 22 1 v L.length sl
  row : ∀ (i : Nat) (s : Value) (l : List Int), sl[i]? = some s → L[i]? = some l → W.ownsRow B 3 1 s l.length (l.map intV)
  ne : ∀ (i j : Nat) (s s' : Value) (b : Nat), sl[i]? = some s → sl[j]? = some s' → s.ownBlock = some b → s'.ownBlock = some b → i = j
theorem Piles.len {W : World} {B : Nat} {v : Value} {sl : List Value} {L : List (List Int)} (h : Piles W B v sl L) : sl.length = L.length := by
  have := h.own.1
  omega
theorem Piles.below {W W' : World} {B : Nat} {v : Value} {sl : List Value} {L : List (List Int)} (h : Piles W B v sl L) (hB : Below W.heap.size W W') : Piles W' B v sl L :=
  ⟨own_belowP h.own hB, fun i s l h1 h2 => own_belowP (h.row i s l h1 h2) hB, h.ne⟩
theorem Piles.nil (W : World) (B : Nat) : Piles W B (.slice none 0 0) [] [] :=
  ⟨World.ownsRow_nil _ _ _ _, fun i s l h => by simp at h, fun i j s s' b h => by simp at h⟩
theorem Piles.of_empty {W : World} {B : Nat} {v : Value} (h : W.ownsRow B 22 1 v 0 []) : Piles W B v [] [] :=
  ⟨h, fun i s l h => by simp at h, fun i j s s' b h => by simp at h⟩
theorem Piles.get {W : World} {B : Nat} {v : Value} {sl : List Value} {L : List (List Int)} (h : Piles W B v sl L) {k : Nat} (hk : k < L.length) :
    ∃ g cap s, v = .slice (some ⟨g, 0, none⟩) L.length cap ∧ sl[k]? = some s ∧ W.cell? ⟨g, k, none⟩ = some s ∧ W.frozen? ⟨g, k, none⟩ = false ∧ W.ownsRow B 3 1 s L[k].length (L[k].map intV) := by
  have hl := h.len
  have hs : sl[k]? = some sl[k] := List.getElem?_eq_getElem (by omega)
  have hr := h.row k sl[k] L[k] hs (List.getElem?_eq_getElem hk)
  rcases h.own.2 with ⟨rfl, h0⟩ | ⟨g, cap, cur, rfl, h1, h2, h3⟩
  · omega
  · refine ⟨g, cap, sl[k], rfl, hs, ?_, h.own.frozenAt k, hr⟩
    rw [h.own.cellAt k (by omega)]; exact hs
theorem Piles.slice {W : World} {B : Nat} {v : Value} {sl : List Value} {L : List (List Int)} (h : Piles W B v sl L) : ∃ a cap, v = .slice a L.length cap := by
  rcases h.own.2 with ⟨rfl, h0⟩ | ⟨g, cap, cur, rfl, h1, h2, h3⟩
  · exact ⟨_, _, by rw [h0]⟩
  · exact ⟨_, _, rfl⟩
theorem Piles.lists {W : World} {B : Nat} {v : Value} {sl : List Value} {L : List (List Int)} (h : Piles W B v sl L) : ListsAt W v L := by
  obtain ⟨a, cap, rfl⟩ := h.slice
  refine ⟨a, cap, rfl, fun h0 => ?_⟩
  obtain ⟨g, cap', s, e, _⟩ := h.get h0
  cases e
  refine ⟨g, 0, rfl, (h.own.lt g rfl).2, fun j hj => ?_⟩
  obtain ⟨g', cap', s, e, _, hc, _, hr⟩ := h.get hj
  cases e
  exact ⟨s, by rw [Nat.zero_add]; exact hc, IntsAt.of_own hr⟩
/-- one more list -/
theorem Piles.add {W A w' : World} {B b : Nat} {v v' s : Value} {sl : List Value} {L : List (List Int)} {l : List Int} (h : Piles W B v sl L) (hA : Below W.heap.size W A)
    (hs : A.ownsRow B 3 1 s l.length (l.map intV)) (hb : s.ownBlock = some b) (hbn : W.heap.size ≤ b) (hg : A.grownBy w' v.ownBlock) (ho : w'.ownsRow B 22 1 v' (L.length + 1) (sl ++ [s])) :
    Piles w' B v' (sl ++ [s]) (L ++ [l]) := by
  have hl := h.len
  have get : ∀ i u, (sl ++ [s])[i]? = some u → (sl[i]? = some u ∧ i < sl.length) ∨ (u = s ∧ i = sl.length) := fun i u hi => by
    rcases Nat.lt_or_ge i sl.length with hlt | hge
    · rw [List.getElem?_append_left hlt] at hi; exact .inl ⟨hi, hlt⟩
    · rw [List.getElem?_append_right hge] at hi
      obtain ⟨h1, h2⟩ := List.getElem?_eq_some_iff.1 hi
      simp at h1
      have e : i - sl.length = 0 := by omega
      simp [e] at h2
      exact .inr ⟨h2.symm, by omega⟩
  have hvA := own_belowP h.own hA
  have old : ∀ (i : Nat) (u : Value) (b' : Nat), sl[i]? = some u → u.ownBlock = some b' → b' < W.heap.size := fun i u b' hi hb' => by
    have hi2 : i < sl.length := (List.getElem?_eq_some_iff.1 hi).1
    exact ((h.row i u L[i] hi (List.getElem?_eq_getElem (by omega))).lt b' hb').2
  refine ⟨by simpa using ho, fun i u m h1 h2 => ?_, fun i j u u' b' h1 h2 h3 h4 => ?_⟩
  · rcases get i u h1 with ⟨h1, hi⟩ | ⟨rfl, rfl⟩
    · rw [List.getElem?_append_left (by omega)] at h2
      have hr := own_belowP (h.row i u m h1 h2) hA
      exact hr.kept hg (rows_apartP hr hvA int_ne_ints)
    · rw [List.getElem?_append_right (by omega), show sl.length - L.length = 0 by omega] at h2
      simp at h2
      subst h2
      exact hs.kept hg (rows_apartP hs hvA int_ne_ints)
  · rcases get i u h1 with ⟨p1, hi⟩ | ⟨e1, e2⟩
    · rcases get j u' h2 with ⟨p2, hj⟩ | ⟨e3, e4⟩
      · exact h.ne i j u u' b' p1 p2 h3 h4
      · have := old i u b' p1 h3
        rw [e3, hb] at h4; injection h4 with h4; omega
    · rcases get j u' h2 with ⟨p2, hj⟩ | ⟨e3, e4⟩
      · have := old j u' b' p2 h4
        rw [e1, hb] at h3; injection h3 with h3; omega
      · omega
/-- one element more in a list -/
theorem Piles.upd {W A w1 : World} {B g n cap k g' : Nat} {s s' : Value} {sl : List Value} {L : List (List Int)} {l : List Int} {x : Int} (h : Piles W B (.slice (some ⟨g, 0, none⟩) n cap) sl L) (hn : L.length = n) (hk : sl[k]? = some s) (hL : L[k]? = some l)
    (hA : Below W.heap.size W A) (hg : A.grownBy w1 s.ownBlock) (ho : w1.ownsRow B 3 1 s' (l.length + 1) (l.map intV ++ [intV x])) (hs' : s'.ownBlock = some g') (hf : s.ownBlock = some g' ∨ W.heap.size ≤ g') :
    w1.ownsRow B 22 1 (.slice (some ⟨g, 0, none⟩) n cap) n sl ∧ Piles (w1.setCell ⟨g, k, none⟩ s') B (.slice (some ⟨g, 0, none⟩) n cap) (sl.set k s') (L.set k (l ++ [x])) := by
  have hl := h.len
  have hsr := own_belowP (h.row k s l hk hL) hA
  have hvA := own_belowP h.own hA
  have hv1 := hvA.kept hg (rows_apartP hvA hsr int_ne_ints.symm)
  have hgl : ∀ (u : Value) (m : Nat) (ys : List Value) (w : World), w.ownsRow B 3 1 u m ys → w.ownsRow B 22 1 (.slice (some ⟨g, 0, none⟩) n cap) n sl → u.ownBlock ≠ some g := fun u m ys w h1 h2 e => by
    rcases rows_apartP h1 h2 int_ne_ints with h3 | h3
    · rw [h3] at e; cases e
    · exact h3 e
  have hn1 : w1.ownsRow B 22 1 (.slice (some ⟨g, 0, none⟩) n cap) n sl := by rw [hn] at hv1; exact hv1
  have old : ∀ (i : Nat) (u : Value) (b' : Nat), sl[i]? = some u → u.ownBlock = some b' → b' < W.heap.size := fun i u b' hi hb' => by
    have hi2 : i < sl.length := (List.getElem?_eq_some_iff.1 hi).1
    exact ((h.row i u L[i] hi (List.getElem?_eq_getElem (by omega))).lt b' hb').2
  have hne : ∀ (i : Nat) (u : Value) (b' : Nat), i ≠ k → sl[i]? = some u → u.ownBlock = some b' → b' ≠ g' := fun i u b' hik hi hb' e => by
    subst e
    rcases hf with hf | hf
    · exact hik (h.ne i k u s b' hi hk hb' hf)
    · have := old i u b' hi hb'; omega
  have hkl : k < sl.length := (List.getElem?_eq_some_iff.1 hk).1
  have getS : ∀ i u, (sl.set k s')[i]? = some u → (i ≠ k ∧ sl[i]? = some u) ∨ (i = k ∧ u = s') := fun i u hi => by
    rw [List.getElem?_set] at hi
    by_cases e : k = i
    · subst e
      rw [if_pos rfl, if_pos hkl] at hi
      exact .inr ⟨rfl, (Option.some.inj hi).symm⟩
    · rw [if_neg e] at hi
      exact .inl ⟨fun h => e h.symm, hi⟩
  refine ⟨hn1, ?_, fun i u m h1 h2 => ?_, fun i j u u' b' h1 h2 h3 h4 => ?_⟩
  · have := (hn1.stored k s').1
    rw [List.length_set, hn]; exact this
  · rcases getS i u h1 with ⟨hik, h1⟩ | ⟨rfl, rfl⟩
    · rw [List.getElem?_set_ne (fun e => hik e.symm)] at h2
      have hr := own_belowP (h.row i u m h1 h2) hA
      have hr1 := hr.kept hg (by
        cases hu : u.ownBlock with
        | none => exact .inl rfl
        | some b' => exact .inr (fun e => hik (h.ne i k u s b' h1 hk hu e.symm)))
      exact own_keepP hr1 fun b' hb' => Below.heap_setCell w1 ⟨g, k, none⟩ s' b' (fun e => hgl _ _ _ _ hr1 hn1 (by rw [hb', e]))
    · rw [List.getElem?_set_self (by omega)] at h2
      obtain rfl := Option.some.inj h2
      have ho2 : w1.ownsRow B 3 1 u (l ++ [x]).length ((l ++ [x]).map intV) := by simpa using ho
      exact own_keepP ho2 fun b' hb' => Below.heap_setCell w1 ⟨g, i, none⟩ u b' (fun e => hgl _ _ _ _ ho2 hn1 (by rw [hb', e]))
  · rcases getS i u h1 with ⟨hik, p1⟩ | ⟨e1, e2⟩
    · rcases getS j u' h2 with ⟨hjk, p2⟩ | ⟨e3, e4⟩
      · exact h.ne i j u u' b' p1 p2 h3 h4
      · rw [e4, hs'] at h4; injection h4 with h4
        exact absurd h4.symm (hne i u b' hik p1 h3)
    · rcases getS j u' h2 with ⟨hjk, p2⟩ | ⟨e3, e4⟩
      · rw [e2, hs'] at h3; injection h3 with h3
        exact absurd h3.symm (hne j u' b' hjk p2 h4)
      · omega
/-- which list takes an element -/
def PickPost (P : List Int → Bool) (L : List (List Int)) (r : Int) : Prop :=
  (∃ (k : Nat) (hk : k < L.length), (∀ (j : Nat) (hj : j < k), P (L[j]'(Nat.lt_trans hj hk)) = false) ∧ P L[k] = true ∧ r = k) ∨ ((∀ p ∈ L, P p = false) ∧ r = -1)
def takes (l : List Int) (x : Int) (p : List Int) : Bool := decide (x ≤ at0 l (p.getLastD 0))
theorem place_none (l : List Int) (i x : Int) : ∀ L : List (List Int), (∀ p ∈ L, takes l x p = false) → place l i x L = L ++ [[i]]
  | [], _ => rfl
  | p :: L, h => by
    have h1 := h p (by simp)
    unfold takes at h1
    rw [decide_eq_false_iff_not] at h1
    rw [place, if_neg h1, place_none l i x L (fun q hq => h q (by simp [hq]))]; rfl
theorem place_at (l : List Int) (i x : Int) : ∀ (L : List (List Int)) (k : Nat) (hk : k < L.length), (∀ (j : Nat) (hj : j < k), takes l x (L[j]'(Nat.lt_trans hj hk)) = false) → takes l x L[k] = true → place l i x L = L.set k (L[k] ++ [i])
  | [], k, hk, _, _ => by simp at hk
  | p :: L, 0, _, _, h => by
    have h : x ≤ at0 l (p.getLastD 0) := by unfold takes at h; rw [decide_eq_true_eq] at h; exact h
    rw [place, if_pos h]; rfl
  | p :: L, k + 1, hk, h, h2 => by
    have h1 : ¬ x ≤ at0 l (p.getLastD 0) := by have h1 := h 0 (by omega); unfold takes at h1; rw [decide_eq_false_iff_not] at h1; exact h1
    rw [place, if_neg h1, place_at l i x L k (by simpa using hk) (fun j hj => h (j + 1) (by omega)) h2]; rfl
end Go.Proofs.Yteceahbnafaeoaa
