/- The lists that are open while a string is read: a row of slices, each a row of values. -/
import Derived.Test.YtjcigjggfmfoeaaDoorCoMake
import Derived.Test.YtjcigjggfmfoeaaDoorCoNum
import Derived.WalkSmall
namespace Go.Proofs.YtjcigjggfmfoeaaDoor
set_option linter.unusedSimpArgs false
set_option linter.unusedVariables false
set_option maxRecDepth 100000
open Go.RowKit Go.Deep

theorem own_keep {W W' : World} {B : Nat} {e : TypeId} {size : Nat} {v : Value} {n : Nat} {xs : List Value} (h : W.ownsRow B e size v n xs) (hk : ∀ g, v.ownBlock = some g → W'.heap[g]? = W.heap[g]?) : W'.ownsRow B e size v n xs := by
  refine ⟨h.1, ?_⟩
  rcases h.2 with hn | ⟨g, cap, cur, rfl, hb, hg, rest⟩
  · exact .inl hn
  · exact .inr ⟨g, cap, cur, rfl, hb, (hk g rfl).trans hg, rest⟩
/-- the open lists, the outermost one first, and the slices that hold them -/
structure Opens (W : World) (B : Nat) (P : Nat → Prop) (v : Value) (sl : List Value) (ls : List (List Val)) : Prop where
  own : W.ownsRow B 22 1 v ls.length sl
  row : ∀ (i : Nat) (s : Value) (l : List Val), sl[i]? = some s → ls[i]? = some l → ∃ cs, W.ownsRow B 24 4 s l.length cs ∧ CsOf W P cs l
  ne : ∀ (i j : Nat) (s s' : Value) (b : Nat), sl[i]? = some s → sl[j]? = some s' → s.ownBlock = some b → s'.ownBlock = some b → i = j
  av : ∀ (i : Nat) (s : Value) (b : Nat), sl[i]? = some s → s.ownBlock = some b → ¬ P b ∧ v.ownBlock ≠ some b
  hv : ∀ b, v.ownBlock = some b → ¬ P b
  lo : ∀ b, P b → B ≤ b
  top : ∀ b, W.heap.size ≤ b → P b
theorem Opens.len {W : World} {B : Nat} {P : Nat → Prop} {v : Value} {sl : List Value} {ls : List (List Val)} (h : Opens W B P v sl ls) : sl.length = ls.length := by
  have := h.own.1
  omega
theorem Opens.nil (W : World) (B : Nat) (hB : B ≤ W.heap.size) : Opens W B (fun b => B ≤ b) (.slice none 0 0) [] [] :=
  ⟨World.ownsRow_nil _ _ _ _, fun i s l h => by simp at h, fun i j s s' b h => by simp at h, fun i s b h => by simp at h, fun b h => (nomatch h), fun b h => h, fun b h => Nat.le_trans hB h⟩
theorem Opens.row_lt {W : World} {B : Nat} {P : Nat → Prop} {v : Value} {sl : List Value} {ls : List (List Val)} (h : Opens W B P v sl ls) {i : Nat} {s : Value} (hs : sl[i]? = some s) {b : Nat} (hb : s.ownBlock = some b) : b < W.heap.size := by
  have hl := h.len
  have hi : i < sl.length := (List.getElem?_eq_some_iff.1 hs).1
  obtain ⟨cs, ho, _⟩ := h.row i s ls[i] hs (List.getElem?_eq_getElem (by omega))
  exact (ho.lt b hb).2
/-- what was there is as it was -/
theorem Opens.below {W W' : World} {B : Nat} {P : Nat → Prop} {v : Value} {sl : List Value} {ls : List (List Val)} (h : Opens W B P v sl ls) (hb : Below W.heap.size W W') : Opens W' B P v sl ls :=
  ⟨own_keep h.own fun g hg => hb.block g (h.own.lt g hg).2, fun i s l h1 h2 => by
      obtain ⟨cs, ho, hc⟩ := h.row i s l h1 h2
      exact ⟨cs, own_keep ho fun g hg => hb.block g (ho.lt g hg).2, hc.keep (fun b _ hlt => hb.block b hlt) hb.size⟩,
    h.ne, h.av, h.hv, h.lo, fun b hl => h.top b (Nat.le_trans hb.size hl)⟩
/-- a list begins -/
theorem Opens.push {W W' : World} {B : Nat} {P : Nat → Prop} {v v' : Value} {sl : List Value} {ls : List (List Val)} (h : Opens W B P v sl ls)
    (ho : W'.ownsRow B 22 1 v' (ls.length + 1) (sl ++ [.slice none 0 0])) (hs : W.heap.size ≤ W'.heap.size) (hk : ∀ k, k < W.heap.size → some k ≠ v.ownBlock → W'.heap[k]? = W.heap[k]?)
    (hf : v'.ownBlock = v.ownBlock ∨ v'.ownBlock = some W.heap.size) : Opens W' B (fun b => P b ∧ v'.ownBlock ≠ some b) v' (sl ++ [.slice none 0 0]) (ls ++ [[]]) := by
  have hlen := h.len
  have hfr : ∀ b, b < W.heap.size → v'.ownBlock = some b → v.ownBlock = some b := fun b hlt hb => by
    rcases hf with hf | hf
    · rw [← hf]; exact hb
    · rw [hf] at hb; injection hb with hb; omega
  have get : ∀ i s, (sl ++ [Value.slice none 0 0])[i]? = some s → (sl[i]? = some s ∧ i < sl.length) ∨ (s = .slice none 0 0 ∧ i = sl.length) := fun i s hi => by
    rcases Nat.lt_or_ge i sl.length with hlt | hge
    · rw [List.getElem?_append_left hlt] at hi; exact .inl ⟨hi, hlt⟩
    · rw [List.getElem?_append_right hge] at hi
      obtain ⟨h1, h2⟩ := List.getElem?_eq_some_iff.1 hi
      simp at h1
      have e : i - sl.length = 0 := by omega
      simp [e] at h2
      exact .inr ⟨h2.symm, by omega⟩
  refine ⟨by simpa using ho, fun i s l h1 h2 => ?_, fun i j s s' b h1 h2 h3 h4 => ?_, fun i s b h1 h2 => ?_, fun b hb hp => hp.2 hb, fun b hp => h.lo b hp.1, fun b hb => ⟨h.top b (by omega), fun e => by have := (ho.lt b e).2; omega⟩⟩
  · rcases get i s h1 with ⟨h1, hi⟩ | ⟨rfl, rfl⟩
    · rw [List.getElem?_append_left (by omega)] at h2
      obtain ⟨cs, ho', hc⟩ := h.row i s l h1 h2
      refine ⟨cs, own_keep ho' fun g hg => hk g (ho'.lt g hg).2 (fun e => (h.av i s g h1 hg).2 e.symm), ?_⟩
      refine (hc.mono (P' := fun b => P b ∧ v'.ownBlock ≠ some b) fun b hlt hp => ⟨hp, fun e => h.hv b (hfr b hlt e) hp⟩).keep (fun b hp hlt => hk b hlt (fun e => h.hv b e.symm hp.1)) hs
    · rw [List.getElem?_append_right (by omega), show sl.length - ls.length = 0 by omega] at h2
      simp at h2
      subst h2
      exact ⟨[], World.ownsRow_nil _ _ _ _, by rw [CsOf]⟩
  · rcases get i s h1 with ⟨h1, hi⟩ | ⟨rfl, rfl⟩
    · rcases get j s' h2 with ⟨h2, hj⟩ | ⟨rfl, rfl⟩
      · exact h.ne i j s s' b h1 h2 h3 h4
      · cases h4
    · cases h3
  · rcases get i s h1 with ⟨h1, hi⟩ | ⟨rfl, rfl⟩
    · exact ⟨fun hp => (h.av i s b h1 h2).1 hp.1, fun e => (h.av i s b h1 h2).2 (hfr b (h.row_lt h1 h2) e)⟩
    · cases h2
/-- the innermost list ends -/
theorem Opens.pop {W : World} {B : Nat} {P : Nat → Prop} {g n cap : Nat} {sl : List Value} {s : Value} {ls : List (List Val)} {l : List Val} (h : Opens W B P (.slice (some ⟨g, 0, none⟩) (n + 1) cap) (sl ++ [s]) (ls ++ [l])) (hn : ls.length = n) :
    Opens W B P (.slice (some ⟨g, 0, none⟩) n cap) sl ls := by
  have hlen := h.len
  simp at hlen
  have ho := h.own
  rw [List.length_append, hn] at ho
  refine ⟨by rw [hn]; exact Go.ownsRow_pop (by omega) ho, fun i s' l' h1 h2 => ?_, fun i j s1 s2 b h1 h2 => ?_, fun i s1 b h1 h2 => ?_, fun b hb => h.hv b hb, h.lo, h.top⟩
  · exact h.row i s' l' (by rw [List.getElem?_append_left (List.getElem?_eq_some_iff.1 h1).1]; exact h1) (by rw [List.getElem?_append_left (List.getElem?_eq_some_iff.1 h2).1]; exact h2)
  · exact h.ne i j s1 s2 b (by rw [List.getElem?_append_left (List.getElem?_eq_some_iff.1 h1).1]; exact h1) (by rw [List.getElem?_append_left (List.getElem?_eq_some_iff.1 h2).1]; exact h2)
  · exact h.av i s1 b (by rw [List.getElem?_append_left (List.getElem?_eq_some_iff.1 h1).1]; exact h1) h2
/-- the innermost list, as a slice of values -/
theorem Opens.last {W : World} {B : Nat} {P : Nat → Prop} {v : Value} {sl : List Value} {s : Value} {ls : List (List Val)} {l : List Val} (h : Opens W B P v (sl ++ [s]) (ls ++ [l])) :
    ∃ cs, W.ownsRow B 24 4 s l.length cs ∧ CsOf W P cs l := by
  have hlen := h.len
  simp at hlen
  exact h.row sl.length s l (by simp) (by rw [hlen]; simp)
/-- a value is put into the innermost list -/
theorem Opens.add {W W' : World} {B : Nat} {P : Nat → Prop} {v : Value} {sl : List Value} {s s' : Value} {ls : List (List Val)} {l : List Val} {x : Val} {cs' : List Value} (h : Opens W B P v (sl ++ [s]) (ls ++ [l]))
    (hov : W'.ownsRow B 22 1 v (ls.length + 1) (sl ++ [s'])) (hos : W'.ownsRow B 24 4 s' (l.length + 1) cs') (hcs : CsOf W P cs' (l ++ [x])) (hs : W.heap.size ≤ W'.heap.size)
    (hk : ∀ k, k < W.heap.size → some k ≠ v.ownBlock → some k ≠ s.ownBlock → W'.heap[k]? = W.heap[k]?) (hf : s'.ownBlock = s.ownBlock ∨ ∃ g, s'.ownBlock = some g ∧ W.heap.size ≤ g) :
    Opens W' B (fun b => P b ∧ s'.ownBlock ≠ some b) v (sl ++ [s']) (ls ++ [l ++ [x]]) := by
  have hlen := h.len
  simp at hlen
  have hlast : (sl ++ [s])[sl.length]? = some s := by simp
  have hfr : ∀ b, b < W.heap.size → s'.ownBlock = some b → s.ownBlock = some b := fun b hlt hb => by
    rcases hf with hf | ⟨g, hf, hg⟩
    · rw [← hf]; exact hb
    · rw [hf] at hb; injection hb with hb; omega
  have get : ∀ i u, (sl ++ [s'])[i]? = some u → (((sl ++ [s])[i]? = some u ∧ i < sl.length) ∨ (u = s' ∧ i = sl.length)) := fun i u hi => by
    rcases Nat.lt_or_ge i sl.length with hlt | hge
    · rw [List.getElem?_append_left hlt] at hi; exact .inl ⟨by rw [List.getElem?_append_left hlt]; exact hi, hlt⟩
    · rw [List.getElem?_append_right hge] at hi
      obtain ⟨h1, h2⟩ := List.getElem?_eq_some_iff.1 hi
      simp at h1
      have e : i - sl.length = 0 := by omega
      simp [e] at h2
      exact .inr ⟨h2.symm, by omega⟩
  have hkeep : ∀ b, P b → b < W.heap.size → W'.heap[b]? = W.heap[b]? := fun b hp hlt => hk b hlt (fun e => h.hv b e.symm hp) (fun e => (h.av _ s b hlast e.symm).1 hp)
  have hmono : ∀ b, b < W.heap.size → P b → P b ∧ s'.ownBlock ≠ some b := fun b hlt hp => ⟨hp, fun e => (h.av _ s b hlast (hfr b hlt e)).1 hp⟩
  refine ⟨by simpa using hov, fun i u l' h1 h2 => ?_, fun i j s1 s2 b h1 h2 h3 h4 => ?_, fun i u b h1 h2 => ?_, fun b hb hp => h.hv b hb hp.1, fun b hp => h.lo b hp.1, fun b hb => ⟨h.top b (by omega), fun e => by have := (hos.lt b e).2; omega⟩⟩
  · rcases get i u h1 with ⟨h1, hi⟩ | ⟨rfl, rfl⟩
    · rw [List.getElem?_append_left (by omega)] at h2
      obtain ⟨c, ho', hc⟩ := h.row i u l' h1 (by rw [List.getElem?_append_left (by omega)]; exact h2)
      refine ⟨c, own_keep ho' fun g hg => hk g (ho'.lt g hg).2 (fun e => (h.av i u g h1 hg).2 e.symm) (fun e => ?_), (hc.mono hmono).keep (fun b hp hlt => hkeep b hp.1 hlt) hs⟩
      have := h.ne i _ u s g h1 hlast hg e.symm
      omega
    · rw [List.getElem?_append_right (by omega), show sl.length - ls.length = 0 by omega] at h2
      simp at h2
      subst h2
      exact ⟨cs', by simpa using hos, (hcs.mono hmono).keep (fun b hp hlt => hkeep b hp.1 hlt) hs⟩
  · rcases get i s1 h1 with ⟨g1, hi⟩ | ⟨e1, e1'⟩
    · rcases get j s2 h2 with ⟨g2, hj⟩ | ⟨e2, e2'⟩
      · exact h.ne i j s1 s2 b g1 g2 h3 h4
      · rw [e2] at h4
        rw [e2']
        exact h.ne i _ s1 s b g1 hlast h3 (hfr b (h.row_lt g1 h3) h4)
    · rcases get j s2 h2 with ⟨g2, hj⟩ | ⟨e2, e2'⟩
      · rw [e1] at h3
        rw [e1']
        exact h.ne _ j s s2 b hlast g2 (hfr b (h.row_lt g2 h4) h3) h4
      · rw [e1', e2']
  · rcases get i u h1 with ⟨h1, hi⟩ | ⟨rfl, rfl⟩
    · exact ⟨fun hp => (h.av i u b h1 h2).1 hp.1, (h.av i u b h1 h2).2⟩
    · refine ⟨fun hp => hp.2 h2, fun e => ?_⟩
      rcases hf with hf | ⟨g, hf, hg⟩
      · exact (h.av _ s b hlast (by rw [← hf]; exact h2)).2 e
      · rw [hf] at h2; injection h2 with h2
        have := (h.own.lt b e).2
        omega
/-- the rows are older than what is made now -/
theorem Opens.old {W : World} {B : Nat} {P : Nat → Prop} {v : Value} {sl : List Value} {ls : List (List Val)} (h : Opens W B P v sl ls) : (∀ b, v.ownBlock = some b → b < W.heap.size) ∧ ∀ (i : Nat) (s : Value) (b : Nat), sl[i]? = some s → s.ownBlock = some b → b < W.heap.size :=
  ⟨fun b hb => (h.own.lt b hb).2, fun i s b hs hb => h.row_lt hs hb⟩
/-- a box that no value lies in -/
theorem Opens.fresh {W W' : World} {B : Nat} {P : Nat → Prop} {v : Value} {sl : List Value} {ls : List (List Val)} (h : Opens W B P v sl ls) (hb : Below W.heap.size W W') (hs : W'.heap.size = W.heap.size + 1) : Opens W' B (fun b => P b ∧ b ≠ W.heap.size) v sl ls :=
  ⟨own_keep h.own fun g hg => hb.block g (h.own.lt g hg).2, fun i s l h1 h2 => by
      obtain ⟨cs, ho, hc⟩ := h.row i s l h1 h2
      exact ⟨cs, own_keep ho fun g hg => hb.block g (ho.lt g hg).2, (hc.mono (P' := fun b => P b ∧ b ≠ W.heap.size) (fun b hlt hp => ⟨hp, by omega⟩)).keep (fun b _ hlt => hb.block b hlt) hb.size⟩,
    h.ne, fun i s b h1 h2 => ⟨fun hp => (h.av i s b h1 h2).1 hp.1, (h.av i s b h1 h2).2⟩, fun b hb' hp => h.hv b hb' hp.1, fun b hp => h.lo b hp.1, fun b hl => ⟨h.top b (by omega), by omega⟩⟩
/-- a store into that box -/
theorem Opens.upd {W W' : World} {B D : Nat} {P : Nat → Prop} {v : Value} {sl : List Value} {ls : List (List Val)} (h : Opens W B P v sl ls) (hk : ∀ k, k ≠ D → W'.heap[k]? = W.heap[k]?) (hs : W'.heap.size = W.heap.size) (hP : ¬ P D)
    (hv : v.ownBlock ≠ some D) (hr : ∀ (i : Nat) (s : Value), sl[i]? = some s → s.ownBlock ≠ some D) : Opens W' B P v sl ls :=
  ⟨own_keep h.own fun g hg => hk g (fun e => hv (by rw [← e]; exact hg)), fun i s l h1 h2 => by
      obtain ⟨cs, ho, hc⟩ := h.row i s l h1 h2
      exact ⟨cs, own_keep ho fun g hg => hk g (fun e => hr i s h1 (by rw [← e]; exact hg)), hc.keep (fun b hp _ => hk b (fun e => hP (by rw [← e]; exact hp))) (by omega)⟩,
    h.ne, h.av, h.hv, h.lo, fun b hl => h.top b (by omega)⟩
theorem set_four (cs : List Value) (z0 z1 z2 z3 c0 c1 c2 c3 : Value) : ((((cs ++ [z0, z1, z2, z3]).set cs.length c0).set (cs.length + 1) c1).set (cs.length + 2) c2).set (cs.length + 3) c3 = cs ++ [c0, c1, c2, c3] := by
  rw [List.set_append_right _ _ (Nat.le_refl _), List.set_append_right _ _ (by omega), List.set_append_right _ _ (by omega), List.set_append_right _ _ (by omega)]
  simp
theorem set_last (sl : List Value) (a b : Value) : (sl ++ [a]).set sl.length b = sl ++ [b] := by
  rw [List.set_append_right _ _ (Nat.le_refl _)]; simp
/-- the four cells of a value are stored behind those of a list, and the slice into the row of lists -/
theorem put_four {w W : World} {B g2 m cap : Nat} {cs : List Value} {z0 z1 z2 z3 c0 c1 c2 c3 : Value} (h : w.ownsRow B 24 4 (.slice (some ⟨g2, 0, none⟩) (m + 1) cap) (m + 1) (cs ++ [z0, z1, z2, z3])) (hm : cs.length = m * 4)
    (hW : (((w.setCell ⟨g2, m * 4, none⟩ c0).setCell ⟨g2, m * 4 + 1, none⟩ c1).setCell ⟨g2, m * 4 + 2, none⟩ c2).setCell ⟨g2, m * 4 + 3, none⟩ c3 = W) :
    W.ownsRow B 24 4 (.slice (some ⟨g2, 0, none⟩) (m + 1) cap) (m + 1) (cs ++ [c0, c1, c2, c3]) ∧ W.heap.size = w.heap.size ∧ ∀ k, k ≠ g2 → W.heap[k]? = w.heap[k]? := by
  subst hW
  refine ⟨?_, by simp [World.setCell], fun k hk => by rw [Below.heap_setCell _ _ _ _ hk, Below.heap_setCell _ _ _ _ hk, Below.heap_setCell _ _ _ _ hk, Below.heap_setCell _ _ _ _ hk]⟩
  have := ((((h.stored (m * 4) c0).1.stored (m * 4 + 1) c1).1.stored (m * 4 + 2) c2).1.stored (m * 4 + 3) c3).1
  rw [← hm, set_four, hm] at this
  exact this
theorem put_last {w : World} {B g n cap : Nat} {sl : List Value} {a b : Value} (h : w.ownsRow B 22 1 (.slice (some ⟨g, 0, none⟩) (n + 1) cap) (n + 1) (sl ++ [a])) (hn : sl.length = n) :
    (w.setCell ⟨g, n, none⟩ b).ownsRow B 22 1 (.slice (some ⟨g, 0, none⟩) (n + 1) cap) (n + 1) (sl ++ [b]) := by
  have := (h.stored n b).1
  rw [← hn, set_last, hn] at this
  exact this
theorem cs_one {W : World} {P : Nat → Prop} {x : Val} {u : Value} (h : VAt W P (.agg #[intV x.kd, intV x.nm, .string x.tx, u]) x) : CsOf W P [intV x.kd, intV x.nm, .string x.tx, u] [x] := by
  rw [CsOf]; exact ⟨u, [], rfl, h, by rw [CsOf]⟩
/-- both stores are made, in whatever order -/
def Stored (w2 W5 : World) (g g2 n m : Nat) (c0 c1 c2 c3 s2 : Value) : Prop :=
  ((((w2.setCell ⟨g2, m * 4, none⟩ c0).setCell ⟨g2, m * 4 + 1, none⟩ c1).setCell ⟨g2, m * 4 + 2, none⟩ c2).setCell ⟨g2, m * 4 + 3, none⟩ c3).setCell ⟨g, n, none⟩ s2 = W5 ∨
  ((((w2.setCell ⟨g, n, none⟩ s2).setCell ⟨g2, m * 4, none⟩ c0).setCell ⟨g2, m * 4 + 1, none⟩ c1).setCell ⟨g2, m * 4 + 2, none⟩ c2).setCell ⟨g2, m * 4 + 3, none⟩ c3 = W5
theorem Stored.rows {w2 W5 : World} {g g2 n m B cap cap2 : Nat} {c0 c1 c2 c3 z0 z1 z2 z3 a : Value} {cs sl : List Value} (hst : Stored w2 W5 g g2 n m c0 c1 c2 c3 (.slice (some ⟨g2, 0, none⟩) (m + 1) cap2)) (hgg : g ≠ g2)
    (h2 : w2.ownsRow B 24 4 (.slice (some ⟨g2, 0, none⟩) (m + 1) cap2) (m + 1) (cs ++ [z0, z1, z2, z3])) (hm : cs.length = m * 4)
    (h1 : w2.ownsRow B 22 1 (.slice (some ⟨g, 0, none⟩) (n + 1) cap) (n + 1) (sl ++ [a])) (hn : sl.length = n) :
    W5.ownsRow B 24 4 (.slice (some ⟨g2, 0, none⟩) (m + 1) cap2) (m + 1) (cs ++ [c0, c1, c2, c3]) ∧ W5.ownsRow B 22 1 (.slice (some ⟨g, 0, none⟩) (n + 1) cap) (n + 1) (sl ++ [.slice (some ⟨g2, 0, none⟩) (m + 1) cap2]) ∧
      W5.heap.size = w2.heap.size ∧ ∀ k, k ≠ g → k ≠ g2 → W5.heap[k]? = w2.heap[k]? := by
  rcases hst with rfl | rfl
  · obtain ⟨W4, hW4⟩ : ∃ X, (((w2.setCell ⟨g2, m * 4, none⟩ c0).setCell ⟨g2, m * 4 + 1, none⟩ c1).setCell ⟨g2, m * 4 + 2, none⟩ c2).setCell ⟨g2, m * 4 + 3, none⟩ c3 = X := ⟨_, rfl⟩
    rw [hW4]
    obtain ⟨e1, e2, e3⟩ := put_four h2 hm hW4
    refine ⟨own_keep e1 fun k hk => ?_, put_last (own_keep h1 fun k hk => ?_) hn, by simp [World.setCell, e2], fun k hk hk2 => by rw [Below.heap_setCell _ _ _ _ hk]; exact e3 k hk2⟩
    · cases hk; exact Below.heap_setCell _ _ _ _ (Ne.symm hgg)
    · cases hk; exact e3 _ hgg
  · have e4 := put_last (b := .slice (some ⟨g2, 0, none⟩) (m + 1) cap2) h1 hn
    obtain ⟨W1, hW1⟩ : ∃ X, w2.setCell ⟨g, n, none⟩ (.slice (some ⟨g2, 0, none⟩) (m + 1) cap2) = X := ⟨_, rfl⟩
    have h5 : ∀ k, k ≠ g → W1.heap[k]? = w2.heap[k]? := fun k hk => by rw [← hW1]; exact Below.heap_setCell _ _ _ _ hk
    have h6 : W1.heap.size = w2.heap.size := by rw [← hW1]; simp [World.setCell]
    rw [hW1] at e4 ⊢
    obtain ⟨e1, e2, e3⟩ := put_four (own_keep h2 fun k hk => by cases hk; exact h5 _ (Ne.symm hgg)) hm rfl
    refine ⟨e1, own_keep e4 fun k hk => ?_, by rw [e2, h6], fun k hk hk2 => by rw [e3 k hk2, h5 k hk]⟩
    cases hk; exact e3 _ hgg
theorem Stored.below {w2 W5 : World} {g g2 n m B : Nat} {c0 c1 c2 c3 s2 : Value} (hst : Stored w2 W5 g g2 n m c0 c1 c2 c3 s2) (h1 : B ≤ g) (h2 : B ≤ g2) : Below B w2 W5 := by
  rcases hst with rfl | rfl
  · exact (((((Below.refl _ _).setCell (p := ⟨g2, _, none⟩) h2 _).setCell (p := ⟨g2, _, none⟩) h2 _).setCell (p := ⟨g2, _, none⟩) h2 _).setCell (p := ⟨g2, _, none⟩) h2 _).setCell (p := ⟨g, _, none⟩) h1 _
  · exact (((((Below.refl _ _).setCell (p := ⟨g, _, none⟩) h1 _).setCell (p := ⟨g2, _, none⟩) h2 _).setCell (p := ⟨g2, _, none⟩) h2 _).setCell (p := ⟨g2, _, none⟩) h2 _).setCell (p := ⟨g2, _, none⟩) h2 _
theorem Opens.added {W WL w2 W5 : World} {B g g2 n cap cap2 : Nat} {P : Nat → Prop} {s z0 z1 z2 z3 u : Value} {sl cs : List Value} {ls : List (List Val)} {l : List Val} {x : Val}
    (h : Opens W B P (.slice (some ⟨g, 0, none⟩) (n + 1) cap) (sl ++ [s]) (ls ++ [l])) (hn : ls.length = n ∧ sl.length = n) (hbl : Below W.heap.size W WL) (hsl : WL.heap.size = W.heap.size + 1)
    (h2 : w2.ownsRow B 24 4 (.slice (some ⟨g2, 0, none⟩) (l.length + 1) cap2) (l.length + 1) (cs ++ [z0, z1, z2, z3])) (hgrow : WL.grownBy w2 s.ownBlock) (hat : s.ownBlock = some g2 ∨ g2 = W.heap.size + 1)
    (hgg : g ≠ g2) (hcs : CsOf W P cs l) (hx : VAt W P (.agg #[intV x.kd, intV x.nm, .string x.tx, u]) x)
    (hst : Stored w2 W5 g g2 n l.length (intV x.kd) (intV x.nm) (.string x.tx) u (.slice (some ⟨g2, 0, none⟩) (l.length + 1) cap2)) :
    Opens W5 B (fun b => P b ∧ some g2 ≠ some b) (.slice (some ⟨g, 0, none⟩) (n + 1) cap) (sl ++ [.slice (some ⟨g2, 0, none⟩) (l.length + 1) cap2]) (ls ++ [l ++ [x]]) ∧ Below B W W5 := by
  have hgs : some g ≠ s.ownBlock := fun e => (h.av sl.length s g (by simp) e.symm).2 rfl
  have hg := h.own.lt g rfl
  have hown := h.own
  rw [List.length_append, hn.1] at hown
  have h1 : w2.ownsRow B 22 1 (.slice (some ⟨g, 0, none⟩) (n + 1) cap) (n + 1) (sl ++ [s]) := own_keep hown fun k hk => by
    cases hk
    exact (hgrow.block g (by omega) hgs).trans (hbl.block g hg.2)
  obtain ⟨e1, e2, e3, e4⟩ := hst.rows hgg h2 hcs.len h1 hn.2
  have hsz := hgrow.size
  refine ⟨h.add (hn.1 ▸ e2) e1 (hcs.app (cs_one hx)) (by omega) (fun k hk hk1 hk2 => ?_) ?_, ?_⟩
  · have hkg : k ≠ g := fun e => hk1 (by rw [e]; rfl)
    have hkg2 : k ≠ g2 := fun e => by
      rcases hat with hat | hat
      · exact hk2 (by rw [e, hat])
      · omega
    rw [e4 k hkg hkg2, hgrow.block k (by omega) hk2, hbl.block k hk]
  · rcases hat with hat | hat
    · exact .inl hat.symm
    · exact .inr ⟨g2, rfl, by omega⟩
  · have hB : B ≤ W.heap.size := by omega
    obtain ⟨c, ho, _⟩ := h.last
    exact (((hbl.mono hB).grown hgrow (by omega) (fun k hk => (ho.lt k hk).1))).trans (hst.below hg.1 (h2.lt g2 rfl).1)
end Go.Proofs.YtjcigjggfmfoeaaDoor
