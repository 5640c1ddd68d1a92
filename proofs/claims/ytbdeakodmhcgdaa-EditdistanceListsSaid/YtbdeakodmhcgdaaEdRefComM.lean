/- The reference's Common. -/
import Derived.Test.YtbdeakodmhcgdaaEdComm
import Derived.Test.YtbdeakodmhcgdaaEdLengths
namespace Go.Proofs.Ytbdeakodmhcgdaa
set_option linter.unusedSimpArgs false
set_option linter.unusedVariables false
set_option maxRecDepth 100000
open Go.RowKit Go.Deep

/-! ### the least element with which a longest one goes on -/
/-- a place at which it can go on, and the element there -/
def OkS (xs ys : List ByteArray) (i j k m : Nat) (s : ByteArray) : Prop := i ≤ k ∧ j ≤ m ∧ (∃ hk : k < xs.length, xs[k] = s) ∧ (∃ hm : m < ys.length, ys[m] = s) ∧ LN xs ys (k + 1) (m + 1) + 1 = LN xs ys i j
/-- what is known behind the places V -/
def Fnd (xs ys : List ByteArray) (i j : Nat) (V : Nat → Nat → Prop) (vx vy : Value) : Prop :=
  (vx = .int .i64 (-1) ∧ vy = .int .i64 (-1) ∧ ∀ k m s, V k m → ¬ OkS xs ys i j k m s) ∨
  (∃ (p q : Nat) (s : ByteArray), vx = .int .i64 p ∧ vy = .int .i64 q ∧ OkS xs ys i j p q s ∧ ∀ k m s', V k m → OkS xs ys i j k m s' → ltB s' s = false)
theorem Fnd.mono {xs ys : List ByteArray} {i j : Nat} {V V' : Nat → Nat → Prop} {vx vy : Value} (h : Fnd xs ys i j V vx vy) (hV : ∀ k m s, V' k m → OkS xs ys i j k m s → V k m) : Fnd xs ys i j V' vx vy := by
  rcases h with ⟨h1, h2, h3⟩ | ⟨p, q, s, h1, h2, h3, h4⟩
  · exact .inl ⟨h1, h2, fun k m s hv ho => h3 k m s (hV k m s hv ho) ho⟩
  · exact .inr ⟨p, q, s, h1, h2, h3, fun k m s' hv ho => h4 k m s' (hV k m s' hv ho) ho⟩
def V2 (i j k : Nat) : Nat → Nat → Prop := fun k' m' => k' < k
def V3 (i j k m : Nat) : Nat → Nat → Prop := fun k' m' => k' < k ∨ (k' = k ∧ m' < m)
theorem Fnd.start (xs ys : List ByteArray) (i j : Nat) : Fnd xs ys i j (V2 i j i) (.int .i64 (-1)) (.int .i64 (-1)) := .inl ⟨rfl, rfl, fun k m s hv ho => by have := ho.1; unfold V2 at hv; omega⟩
theorem Fnd.row {xs ys : List ByteArray} {i j k : Nat} {vx vy : Value} (h : Fnd xs ys i j (V2 i j k) vx vy) : Fnd xs ys i j (V3 i j k j) vx vy :=
  h.mono fun k' m' s hv ho => by
    have := ho.2.1
    rcases hv with hv | ⟨hv, hv2⟩
    · exact hv
    · omega
theorem Fnd.rowEnd {xs ys : List ByteArray} {i j k : Nat} {vx vy : Value} (h : Fnd xs ys i j (V3 i j k ys.length) vx vy) : Fnd xs ys i j (V2 i j (k + 1)) vx vy :=
  h.mono fun k' m' s hv ho => by
    obtain ⟨hm, _⟩ := ho.2.2.2.1
    have hv : k' < k + 1 := hv
    by_cases e : k' = k
    · exact .inr ⟨e, hm⟩
    · exact .inl (by omega)
/-- a place at which it can't go on, or not with less -/
theorem Fnd.skip {xs ys : List ByteArray} {i j k m : Nat} {vx vy : Value} (h : Fnd xs ys i j (V3 i j k m) vx vy) (hn : ∀ s, ¬ OkS xs ys i j k m s) : Fnd xs ys i j (V3 i j k (m + 1)) vx vy :=
  h.mono fun k' m' s hv ho => by
    rcases hv with hv | ⟨hv, hv2⟩
    · exact .inl hv
    · by_cases e : m' = m
      · subst hv e; exact absurd ho (hn s)
      · exact .inr ⟨hv, by omega⟩
theorem OkS.same {xs ys : List ByteArray} {i j k m : Nat} {s s' : ByteArray} (h : OkS xs ys i j k m s) (h' : OkS xs ys i j k m s') : s = s' := by
  obtain ⟨_, _, ⟨_, e⟩, _⟩ := h
  obtain ⟨_, _, ⟨_, e'⟩, _⟩ := h'
  rw [← e, ← e']
theorem Fnd.take {xs ys : List ByteArray} {i j k m : Nat} {vx vy : Value} {s : ByteArray} (h : Fnd xs ys i j (V3 i j k m) vx vy) (ho : OkS xs ys i j k m s)
    (hless : ∀ (p q : Nat) (s' : ByteArray), vx = .int .i64 p → OkS xs ys i j p q s' → ltB s s' = true) : Fnd xs ys i j (V3 i j k (m + 1)) (.int .i64 k) (.int .i64 m) := by
  refine .inr ⟨k, m, s, rfl, rfl, ho, fun k' m' s' hv ho' => ?_⟩
  by_cases e : k' = k ∧ m' = m
  · obtain ⟨rfl, rfl⟩ := e
    rw [ho'.same ho]; exact ltB_total.irr _
  · have hv' : V3 i j k m k' m' := by
      rcases hv with hv | ⟨hv, hv2⟩
      · exact .inl hv
      · exact .inr ⟨hv, by have : m' ≠ m := fun e2 => e ⟨hv, e2⟩; omega⟩
    rcases h with ⟨_, _, h3⟩ | ⟨p, q, s0, h1, h2, h3, h4⟩
    · exact absurd ho' (h3 k' m' s' hv')
    · have hl := hless p q s0 h1 h3
      have hn := h4 k' m' s' hv' ho'
      rw [Bool.eq_false_iff]
      intro hc
      have := ltB_total.trans s' s s0 hc hl
      rw [hn] at this; cases this
theorem Fnd.leave {xs ys : List ByteArray} {i j k m p q : Nat} {s s0 : ByteArray} (h : Fnd xs ys i j (V3 i j k m) (.int .i64 p) (.int .i64 q)) (ho : OkS xs ys i j k m s) (h0 : OkS xs ys i j p q s0) (hless : ltB s s0 = false) : Fnd xs ys i j (V3 i j k (m + 1)) (.int .i64 p) (.int .i64 q) := by
  refine .inr ⟨p, q, s0, rfl, rfl, h0, fun k' m' s' hv ho' => ?_⟩
  by_cases e : k' = k ∧ m' = m
  · obtain ⟨rfl, rfl⟩ := e
    rw [ho'.same ho]; exact hless
  · have hv' : V3 i j k m k' m' := by
      rcases hv with hv | ⟨hv, hv2⟩
      · exact .inl hv
      · exact .inr ⟨hv, by have : m' ≠ m := fun e2 => e ⟨hv, e2⟩; omega⟩
    rcases h with ⟨h1, _, _⟩ | ⟨p', q', s1, h1, h2, h3, h4⟩
    · simp only [Value.int.injEq, true_and] at h1; omega
    · simp only [Value.int.injEq, true_and] at h1 h2
      obtain rfl : p = p' := by omega
      obtain rfl : q = q' := by omega
      rw [h0.same h3]; exact h4 k' m' s' hv' ho'
/-- behind all places one has been found -/
theorem Fnd.done {xs ys : List ByteArray} {i j : Nat} {vx vy : Value} (h : Fnd xs ys i j (V2 i j xs.length) vx vy) (hpos : 0 < LN xs ys i j) :
    ∃ (p q : Nat) (s : ByteArray), vx = .int .i64 p ∧ vy = .int .i64 q ∧ OkS xs ys i j p q s ∧ ∀ k m s', OkS xs ys i j k m s' → ltB s' s = false := by
  rcases h with ⟨h1, h2, h3⟩ | ⟨p, q, s, h1, h2, h3, h4⟩
  · obtain ⟨k, m, hk, hm, he, hl⟩ := best_there (a := xs.drop i) (b := ys.drop j) (by unfold LN at hpos; omega)
    rw [List.length_drop] at hk hm
    rw [List.getElem_drop, List.getElem_drop] at he
    rw [List.drop_drop, List.drop_drop] at hl
    refine absurd ⟨by omega, by omega, ⟨by omega, rfl⟩, ⟨by omega, he.symm⟩, ?_⟩ (h3 (i + k) (j + m) xs[i + k] (show i + k < xs.length by omega))
    rw [LN, LN, show i + k + 1 = i + (k + 1) by omega, show j + m + 1 = j + (m + 1) by omega]
    omega
  · exact ⟨p, q, s, h1, h2, h3, fun k m s' ho => h4 k m s' (by obtain ⟨hk, _⟩ := ho.2.2.1; exact hk) ho⟩
/-- one element more -/
theorem com_step {xs ys : List ByteArray} {i j p q x y : Nat} {s : ByteArray} {out : List ByteArray} (hinv : ∀ c, IsBest ltB (xs.drop i) (ys.drop j) c → IsBest ltB xs ys (out ++ c))
    (ho : OkS xs ys i j p q s) (hmin : ∀ k m s', OkS xs ys i j k m s' → ltB s' s = false)
    (hix : i ≤ x) (hx : x < xs.length) (ex : xs[x] = s) (fx : ∀ k (h : k < xs.length), i ≤ k → k < x → xs[k] ≠ s)
    (hjy : j ≤ y) (hy : y < ys.length) (ey : ys[y] = s) (fy : ∀ k (h : k < ys.length), j ≤ k → k < y → ys[k] ≠ s) :
    ∀ c, IsBest ltB (xs.drop (x + 1)) (ys.drop (y + 1)) c → IsBest ltB xs ys ((out ++ [s]) ++ c) := by
  intro c hc
  rw [List.append_assoc]
  apply hinv
  show IsBest ltB (xs.drop i) (ys.drop j) (s :: c)
  obtain ⟨h1, h2, ⟨hp, ep⟩, ⟨hq, eq⟩, hl⟩ := ho
  unfold LN at hl
  refine best_step ltB ltB_total (x := x - i) (y := y - j) (by rw [List.length_drop]; omega) (by rw [List.length_drop]; omega) ?_ ?_ ?_ ?_ ?_ ?_ ?_
  · rw [List.getElem_drop]; simp only [show i + (x - i) = x by omega]; exact ex
  · rw [List.getElem_drop]; simp only [show j + (y - j) = y by omega]; exact ey
  · intro k hk e
    rw [List.length_drop] at hk
    rw [List.getElem_drop] at e
    rcases Nat.lt_or_ge k (x - i) with g | g
    · exact absurd e (fx (i + k) (by omega) (by omega) (by omega))
    · exact g
  · intro k hk e
    rw [List.length_drop] at hk
    rw [List.getElem_drop] at e
    rcases Nat.lt_or_ge k (y - j) with g | g
    · exact absurd e (fy (j + k) (by omega) (by omega) (by omega))
    · exact g
  · refine ⟨p - i, q - j, by rw [List.length_drop]; omega, by rw [List.length_drop]; omega, ?_, ?_, ?_⟩
    · rw [List.getElem_drop]; simp only [show i + (p - i) = p by omega]; exact ep
    · rw [List.getElem_drop]; simp only [show j + (q - j) = q by omega]; exact eq
    · rw [List.drop_drop, List.drop_drop, show i + (p - i + 1) = p + 1 by omega, show j + (q - j + 1) = q + 1 by omega]; omega
  · intro k m hk hm e hl2
    rw [List.length_drop] at hk hm
    rw [List.getElem_drop, List.getElem_drop] at e
    rw [List.drop_drop, List.drop_drop] at hl2
    rw [List.getElem_drop]
    refine hmin (i + k) (j + m) _ ⟨by omega, by omega, ⟨by omega, rfl⟩, ⟨by omega, e.symm⟩, ?_⟩
    rw [LN, LN, show i + k + 1 = i + (k + 1) by omega, show j + m + 1 = j + (m + 1) by omega]; omega
  · rw [List.drop_drop, List.drop_drop, show i + (x - i + 1) = x + 1 by omega, show j + (y - j + 1) = y + 1 by omega]; exact hc
end Go.Proofs.Ytbdeakodmhcgdaa
