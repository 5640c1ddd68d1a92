/- The greedy cover: its subsequences, their number, that it is accepted. -/
import Derived.Test.YteceahbnafaeoaaSqScale
namespace Go.Proofs.Yteceahbnafaeoaa

/-- the list's element at an index -/
def at0 (l : List Int) (i : Int) : Int := l.getD i.toNat 0
/-- an index is put to the end of the first subsequence whose last element is not less than x -/
def place (l : List Int) (i : Int) (x : Int) : List (List Int) → List (List Int)
  | [] => [[i]]
  | p :: ps => if x ≤ at0 l (p.getLastD 0) then (p ++ [i]) :: ps else p :: place l i x ps
/-- the greedy cover of the first n indices -/
def covN (l : List Int) : Nat → List (List Int)
  | 0 => []
  | n + 1 => place l (n : Int) (at0 l n) (covN l n)
def covR (l : List Int) : List (List Int) := covN l l.length
/-- the elements at the ends -/
def tops (l : List Int) (ps : List (List Int)) : List Int := ps.map fun p => at0 l (p.getLastD 0)
/-- the ends, one element further -/
def putT (x : Int) : List Int → List Int
  | [] => [x]
  | t :: ts => if x ≤ t then x :: ts else t :: putT x ts
theorem last_snoc (p : List Int) (i : Int) : (p ++ [i]).getLastD 0 = i := by
  rw [List.getLastD_eq_getLast?, List.getLast?_append]; rfl
theorem tops_place (l : List Int) (i x : Int) (hx : at0 l i = x) : ∀ ps, tops l (place l i x ps) = putT x (tops l ps)
  | [] => by simp [place, tops, putT, hx]
  | p :: ps => by
    have ih := tops_place l i x hx ps
    unfold place
    simp only [tops, List.map_cons, putT] at ih ⊢
    split
    · rw [List.map_cons, last_snoc, hx]
    · rw [List.map_cons, ih]
def topN (l : List Int) : Nat → List Int
  | 0 => []
  | n + 1 => putT (at0 l n) (topN l n)
theorem tops_covN (l : List Int) : ∀ n, tops l (covN l n) = topN l n
  | 0 => rfl
  | n + 1 => by rw [covN, tops_place l _ _ rfl, tops_covN l n, topN]
/-- what the ends say of the increasing sublists -/
structure TopOk (z t : List Int) : Prop where
  asc : t.Pairwise (· < ·)
  up : ∀ s : List Int, ∀ x : Int, (s ++ [x]).Sublist z → (s ++ [x]).Pairwise (· < ·) → ∃ h : s.length < t.length, t[s.length] ≤ x
  has : ∀ j (h : j < t.length), ∃ s : List Int, s.length = j ∧ (s ++ [t[j]]).Sublist z ∧ (s ++ [t[j]]).Pairwise (· < ·)
theorem TopOk.nil : TopOk [] [] := ⟨List.Pairwise.nil, fun s x h => by simp at h, fun j h => by simp at h⟩
theorem putT_split (x : Int) : ∀ t : List Int, t.Pairwise (· < ·) → ∃ a b : List Int, t = a ++ b ∧ (∀ y ∈ a, y < x) ∧ (b = [] ∧ putT x t = a ++ [x] ∨ ∃ y c, b = y :: c ∧ x ≤ y ∧ putT x t = a ++ x :: c)
  | [], _ => ⟨[], [], rfl, by simp, Or.inl ⟨rfl, rfl⟩⟩
  | t :: ts, h => by
    by_cases hx : x ≤ t
    · exact ⟨[], t :: ts, rfl, by simp, Or.inr ⟨t, ts, rfl, hx, by simp [putT, hx]⟩⟩
    · obtain ⟨a, b, e, h1, h2⟩ := putT_split x ts (List.pairwise_cons.1 h).2
      refine ⟨t :: a, b, by rw [e]; rfl, fun y hy => ?_, ?_⟩
      · rcases List.mem_cons.1 hy with rfl | hy
        · omega
        · exact h1 y hy
      · rcases h2 with ⟨h3, h4⟩ | ⟨y, c, h3, h4, h5⟩
        · exact Or.inl ⟨h3, by simp [putT, hx, h4]⟩
        · exact Or.inr ⟨y, c, h3, h4, by simp [putT, hx, h5]⟩
theorem snoc_of_sub {s : List Int} {x y : Int} {z : List Int} (h : (s ++ [x]).Sublist (z ++ [y])) : (s ++ [x]).Sublist z ∨ (x = y ∧ s.Sublist z) := by
  have h2 := h.reverse
  rw [List.reverse_append, List.reverse_append] at h2
  simp only [List.reverse_cons, List.reverse_nil, List.nil_append, List.singleton_append] at h2
  cases h2 with
  | cons _ h =>
    left
    have := h.reverse
    simpa using this
  | cons_cons _ h =>
    right
    exact ⟨rfl, by simpa using h.reverse⟩
theorem pw_snoc {s : List Int} {x : Int} : (s ++ [x]).Pairwise (· < ·) ↔ s.Pairwise (· < ·) ∧ ∀ y ∈ s, y < x := by
  rw [List.pairwise_append]
  constructor
  · rintro ⟨h1, _, h3⟩; exact ⟨h1, fun y hy => h3 y hy x (by simp)⟩
  · rintro ⟨h1, h2⟩; exact ⟨h1, by simp, fun y hy z hz => by simp at hz; subst hz; exact h2 y hy⟩
theorem TopOk.put {z t : List Int} (h : TopOk z t) (x : Int) : TopOk (z ++ [x]) (putT x t) := by
  obtain ⟨a, b, e, ha, hb⟩ := putT_split x t h.asc
  have hasc := h.asc
  -- the subsequence that ends with x
  have hx : ∃ s : List Int, s.length = a.length ∧ (s ++ [x]).Sublist (z ++ [x]) ∧ (s ++ [x]).Pairwise (· < ·) := by
    rcases List.eq_nil_or_concat a with rfl | ⟨a', y, rfl⟩
    · exact ⟨[], rfl, by simp, by simp⟩
    · have hj : a'.length < t.length := by rw [e]; simp
      obtain ⟨s, h1, h2, h3⟩ := h.has a'.length hj
      have ey : t[a'.length] = y := by simp [e]
      rw [ey] at h2 h3
      refine ⟨s ++ [y], by simp [h1], h2.append (List.Sublist.refl [x]), pw_snoc.2 ⟨h3, fun w hw => ?_⟩⟩
      have hyx : y < x := ha y (by simp)
      rcases List.mem_append.1 hw with hw | hw
      · have := (pw_snoc.1 h3).2 w hw; omega
      · simp at hw; omega
  -- an increasing sublist below x is no longer than a
  have hle : ∀ s : List Int, s.Sublist z → s.Pairwise (· < ·) → (∀ y ∈ s, y < x) → s.length ≤ a.length := by
    intro s hs hp hlt
    rcases List.eq_nil_or_concat s with rfl | ⟨s', y, rfl⟩
    · simp
    · obtain ⟨h1, h2⟩ := h.up s' y (by simpa using hs) (by simpa using hp)
      have hy := hlt y (by simp)
      rw [List.length_concat]
      apply Classical.byContradiction
      intro hc
      have hge : a.length ≤ s'.length := by omega
      rcases hb with ⟨rfl, _⟩ | ⟨u, c, rfl, hu, _⟩
      · rw [List.append_nil] at e; rw [e] at h1; omega
      · have hu2 : u ≤ t[s'.length] := by
          have hal : t[a.length]'(by rw [e]; simp) = u := by simp [e]
          by_cases hq : a.length = s'.length
          · simp only [← hq, hal]; omega
          · have := List.pairwise_iff_getElem.1 hasc a.length s'.length (by rw [e]; simp) h1 (by omega)
            rw [hal] at this; omega
        omega
  rcases hb with ⟨rfl, hp⟩ | ⟨u, c, rfl, hu, hp⟩
  · rw [hp]
    rw [List.append_nil] at e
    subst e
    refine ⟨pw_snoc.2 ⟨hasc, ha⟩, fun s y hs hi => ?_, fun j hj => ?_⟩
    · rcases snoc_of_sub hs with hs | ⟨rfl, hs2⟩
      · obtain ⟨h1, h2⟩ := h.up s y hs hi
        exact ⟨by simp; omega, by rw [List.getElem_append_left h1]; exact h2⟩
      · have := hle s hs2 (pw_snoc.1 hi).1 (pw_snoc.1 hi).2
        refine ⟨by simp; omega, ?_⟩
        by_cases hq : s.length < t.length
        · rw [List.getElem_append_left hq]
          have := ha t[s.length] (List.getElem_mem hq); omega
        · have hq2 : s.length = t.length := by omega
          simp [hq2]
    · by_cases hq : j < t.length
      · obtain ⟨s, h1, h2, h3⟩ := h.has j hq
        rw [List.getElem_append_left hq]
        exact ⟨s, h1, h2.trans (List.sublist_append_left z [x]), h3⟩
      · have hq2 : j = t.length := by simp at hj; omega
        subst hq2
        simpa using hx
  · rw [hp]
    have ht := h.asc
    rw [e] at ht
    obtain ⟨p1, p2, p3⟩ := List.pairwise_append.1 ht
    have p4 := List.pairwise_cons.1 p2
    refine ⟨List.pairwise_append.2 ⟨p1, List.pairwise_cons.2 ⟨fun y hy => by have := p4.1 y hy; omega, p4.2⟩, fun y hy w hw => ?_⟩, fun s y hs hi => ?_, fun j hj => ?_⟩
    · rcases List.mem_cons.1 hw with rfl | hw
      · exact ha y hy
      · exact p3 y hy w (by simp [hw])
    · have hlen : (a ++ x :: c).length = t.length := by rw [e]; simp
      rcases snoc_of_sub hs with hs | ⟨rfl, hs2⟩
      · obtain ⟨h1, h2⟩ := h.up s y hs hi
        refine ⟨by omega, ?_⟩
        by_cases hq : s.length = a.length
        · simp only [hq, List.getElem_append_right (Nat.le_refl _), Nat.sub_self, List.getElem_cons_zero]
          have : t[s.length] = u := by simp [e, hq]
          omega
        · have : (a ++ x :: c)[s.length]'(by omega) = t[s.length] := by
            simp only [e, List.getElem_append]
            split
            · rfl
            · simp only [List.getElem_cons]
              split
              · omega
              · rfl
          rw [this]; exact h2
      · have := hle s hs2 (pw_snoc.1 hi).1 (pw_snoc.1 hi).2
        refine ⟨by simp; omega, ?_⟩
        by_cases hq : s.length < a.length
        · rw [List.getElem_append_left hq]
          have := ha a[s.length] (List.getElem_mem hq); omega
        · have hq2 : s.length = a.length := by omega
          simp [hq2]
    · have hlen : (a ++ x :: c).length = t.length := by rw [e]; simp
      by_cases hq : j = a.length
      · subst hq
        simpa using hx
      · have hg : (a ++ x :: c)[j] = t[j]'(by omega) := by
          simp only [e, List.getElem_append]
          split
          · rfl
          · simp only [List.getElem_cons]
            split
            · omega
            · rfl
        rw [hg]
        obtain ⟨s, h1, h2, h3⟩ := h.has j (by omega)
        exact ⟨s, h1, h2.trans (List.sublist_append_left z [x]), h3⟩
theorem at0_get (l : List Int) (n : Nat) (h : n < l.length) : at0 l n = l[n] := by
  unfold at0
  rw [Int.toNat_natCast, List.getD_eq_getElem?_getD, List.getElem?_eq_getElem h]; rfl
theorem top_ok (l : List Int) : ∀ n, n ≤ l.length → TopOk (l.take n) (topN l n)
  | 0, _ => TopOk.nil
  | n + 1, h => by
    rw [topN, List.take_succ_eq_append_getElem (by omega : n < l.length), ← at0_get l n (by omega)]
    exact (top_ok l n (by omega)).put _
theorem cov_len (l : List Int) : (covR l).length = lis l := by
  have h := top_ok l l.length (Nat.le_refl _)
  rw [List.take_length] at h
  have e : (covR l).length = (topN l l.length).length := by rw [← tops_covN]; simp [tops, covR]
  rw [e]
  apply Nat.le_antisymm
  · rcases Nat.eq_zero_or_pos (topN l l.length).length with h0 | h0
    · omega
    · obtain ⟨s, h1, h2, h3⟩ := h.has ((topN l l.length).length - 1) (by omega)
      have := lis_ge h2 ((incV_iff _ none).2 ⟨h3, fun _ _ => rfl⟩)
      rw [List.length_append, h1, List.length_singleton] at this
      omega
  · obtain ⟨t, h1, h2, h3⟩ := lis_has l
    have h4 := ((incV_iff _ none).1 h2).1
    rw [← h3]
    rcases List.eq_nil_or_concat t with rfl | ⟨s, x, rfl⟩
    · simp
    · rw [List.concat_eq_append] at h1 h4
      obtain ⟨h5, _⟩ := h.up s x h1 h4
      rw [List.length_concat]; omega
end Go.Proofs.Yteceahbnafaeoaa
