/- A region that draws its order and whose operations have each a value of their own in one world: also in a round of a loop over an iterator. -/
import Derived.OrdersIn
import Derived.Test.YtipcelgoachjjaaDgVals
namespace Go.Proofs.Ytipcelgoachjjaa
set_option linter.unusedSimpArgs false
set_option linter.unusedVariables false
open Go.RowKit

def updL (L : Nat → Bool) (i : Nat) : Nat → Bool := fun j => if j = i then true else L j
def cntF (L : Nat → Bool) : Nat → Nat
  | 0 => 0
  | k + 1 => cntF L k + (if L k = true then 0 else 1)
theorem cnt_same {L M : Nat → Bool} : ∀ {n : Nat}, (∀ j, j < n → L j = M j) → cntF L n = cntF M n
  | 0, _ => rfl
  | n + 1, h => by rw [cntF, cntF, cnt_same fun j hj => h j (by omega), h n (by omega)]
theorem cnt_upd {L : Nat → Bool} {i : Nat} (hi : L i = false) : ∀ {n : Nat}, i < n → cntF (updL L i) n + 1 = cntF L n
  | 0, h => by omega
  | n + 1, h => by
    rw [cntF, cntF]
    by_cases e : i = n
    · subst e
      rw [cnt_same (L := updL L i) (M := L) (fun j hj => by rw [updL, if_neg (by omega)])]
      simp [updL, hi]
    · have := cnt_upd (L := L) hi (n := n) (by omega)
      have e2 : updL L i n = L n := by rw [updL, if_neg (by omega)]
      rw [e2]; omega
theorem cnt_zero {L : Nat → Bool} : ∀ {n : Nat}, cntF L n = 0 → ∀ j, j < n → L j = true
  | 0, _, j, h => by omega
  | n + 1, hc, j, h => by
    rw [cntF] at hc
    by_cases e : j = n
    · subst e
      by_cases hj : L j = true
      · exact hj
      · rw [if_neg hj] at hc; omega
    · exact cnt_zero (n := n) (by omega) j (by omega)
theorem least_false {L : Nat → Bool} {n : Nat} (h : cntF L n ≠ 0) : ∃ j, j < n ∧ L j = false ∧ ∀ k, k < j → L k = true := by
  induction n with
  | zero => exact absurd rfl h
  | succ n ih =>
    by_cases h0 : cntF L n = 0
    · refine ⟨n, by omega, ?_, fun k hk => cnt_zero h0 k hk⟩
      rw [cntF, h0] at h
      by_cases hn : L n = true
      · rw [if_pos hn] at h; omega
      · simpa using hn
    · obtain ⟨j, h1, h2, h3⟩ := ih h0
      exact ⟨j, by omega, h2, h3⟩
abbrev lst (listed : Array Bool) : Nat → Bool := fun j => listed.getD j true
theorem lst_set {listed : Array Bool} {i : Nat} (hi : i < listed.size) : lst (listed.setIfInBounds i true) = updL (lst listed) i := by
  funext j
  show (listed.setIfInBounds i true).getD j true = if j = i then true else listed.getD j true
  rw [Array.getD_eq_getD_getElem?, Array.getElem?_setIfInBounds]
  by_cases e : j = i
  · subst e; simp [hi]
  · rw [if_neg (fun h => e h.symm), if_neg e, Array.getD_eq_getD_getElem?]
theorem getD_true_of_false {listed : Array Bool} {j : Nat} (h : listed.getD j false = true) : listed.getD j true = true := by
  rw [Array.getD_eq_getD_getElem?] at *
  cases e : listed[j]? with
  | none => simp [e] at h
  | some b => simp [e] at h; simp [h]
theorem getD_false_of_true {listed : Array Bool} {j : Nat} (hj : j < listed.size) (h : listed.getD j true = true) : listed.getD j false = true := by
  rw [Array.getD_eq_getD_getElem?] at *
  simp [hj] at *; exact h
theorem lst_all {listed : Array Bool} {N : Nat} (hs : listed.size = N) (h : ∀ j, j < N → lst listed j = true) : lst listed = fun _ => true := by
  funext j
  by_cases hj : j < N
  · exact h j hj
  · show listed.getD j true = true
    rw [Array.getD_eq_getD_getElem?, Array.getElem?_eq_none (by omega)]; rfl

section
variable {F : Fence} {n : Nat} {P : Program} {ops : Array Oper} {Q : Exit → Act → World → Prop}
/-- what waits for an operation stands behind it -/
def depsUp (ops : Array Oper) : Bool := (List.range ops.size).all fun i => ((ops[i]?).map fun o => o.after.toList.all fun e => !Region.binds .any e || decide (e.on < i)).getD true
theorem depsUp_spec (h : depsUp ops = true) {i : Nat} {o : Oper} (ho : ops[i]? = some o) : ∀ e ∈ o.after, Region.binds .any e = true → e.on < i := by
  intro e he hb
  have hi : i < ops.size := (Array.getElem?_eq_some_iff.1 ho).1
  have := List.all_eq_true.1 h i (List.mem_range.2 hi)
  rw [ho] at this
  have := List.all_eq_true.1 (show (o.after.toList.all fun e => !Region.binds .any e || decide (e.on < i)) = true from this) e (Array.mem_toList_iff.2 he)
  simpa [hb] using this
/-- the last one waits for all others -/
def lastWaits (ops : Array Oper) (N : Nat) : Bool := (List.range N).all fun j => ((ops[N]?).map fun o => o.after.toList.any fun e => Region.binds .any e && decide (e.on = j)).getD false
theorem ready_some {listed : Array Bool} {N : Nat} (hN : ops.size = N) (hs : listed.size = N) (hd : depsUp ops = true) (hc : cntF (lst listed) N ≠ 0) : Region.ready .any ops listed ≠ [] := by
  obtain ⟨j, h1, h2, h3⟩ := least_false hc
  have hj : j < ops.size := by omega
  have : j ∈ Region.ready .any ops listed := mem_ready.2 ⟨h2, ops[j], Array.getElem?_eq_getElem hj, fun e he hb => by
    have := depsUp_spec hd (Array.getElem?_eq_getElem hj) e he hb
    exact getD_false_of_true (by omega) (h3 e.on this)⟩
  intro e; rw [e] at this; cases this

theorem wpAnyIn_still {N : Nat} (A : (Nat → Bool) → Act) (w : World) (hN : ops.size = N) (hd : depsUp ops = true)
    (step : ∀ i, i < N → ∀ L : Nat → Bool, (∀ o, ops[i]? = some o → ∀ e ∈ o.after, Region.binds .any e = true → L e.on = true) → ∀ K : Act → World → Prop, K (A (updL L i)) w → wpOpIn F n P ops Q i K (A L) w)
    (hQ : Q .normal (A fun _ => true) w) :
    ∀ (fuel : Nat) (listed : Array Bool), listed.size = N → cntF (lst listed) N = fuel → wpAnyIn F n P .any ops Q fuel listed (A (lst listed)) w
  | 0, listed, hs, hc => by
    have hall := lst_all hs (cnt_zero hc)
    refine ⟨?_, by rw [hall]; exact hQ⟩
    cases hr : Region.ready .any ops listed with
    | nil => rfl
    | cons j r =>
      have := (mem_ready.1 (show j ∈ Region.ready .any ops listed by rw [hr]; exact List.mem_cons_self ..)).1
      have h2 := congrFun hall j
      rw [show lst listed j = listed.getD j true from rfl, this] at h2; cases h2
  | fuel + 1, listed, hs, hc => by
    refine ⟨fun h => absurd h (ready_some hN hs hd (by omega)), fun i hi => ?_⟩
    obtain ⟨h1, o, ho, h2⟩ := mem_ready.1 hi
    have hiN : i < N := by rw [← hN]; exact (Array.getElem?_eq_some_iff.1 ho).1
    refine step i hiN (lst listed) (fun o' ho' e he hb => getD_true_of_false (h2 e (by rw [ho] at ho'; cases ho'; exact he) hb)) _ ?_
    rw [← lst_set (by omega)]
    refine wpAnyIn_still A w hN hd step hQ fuel _ (by rw [Array.size_setIfInBounds]; exact hs) ?_
    rw [lst_set (by omega)]
    have := cnt_upd (L := lst listed) h1 hiN
    omega

theorem wpAnyIn_still_last {N : Nat} (A : (Nat → Bool) → Act) (w : World) (hN : ops.size = N + 1) (hd : depsUp ops = true) (hl : lastWaits ops N = true)
    (step : ∀ i, i < N → ∀ L : Nat → Bool, (∀ o, ops[i]? = some o → ∀ e ∈ o.after, Region.binds .any e = true → L e.on = true) → ∀ K : Act → World → Prop, K (A (updL L i)) w → wpOpIn F n P ops Q i K (A L) w)
    (last : ∀ L : Nat → Bool, (∀ j, j < N → L j = true) → wpOpIn F n P ops Q N (fun a' w' => Q .normal a' w') (A L) w) :
    ∀ (fuel : Nat) (listed : Array Bool), listed.size = N + 1 → lst listed N = false → cntF (lst listed) (N + 1) = fuel → wpAnyIn F n P .any ops Q fuel listed (A (lst listed)) w
  | 0, listed, hs, hf, hc => by
    have := cnt_zero hc N (by omega)
    rw [hf] at this; cases this
  | fuel + 1, listed, hs, hf, hc => by
    refine ⟨fun h => absurd h (ready_some hN hs hd (by omega)), fun i hi => ?_⟩
    obtain ⟨h1, o, ho, h2⟩ := mem_ready.1 hi
    have hiN : i < N + 1 := by rw [← hN]; exact (Array.getElem?_eq_some_iff.1 ho).1
    have hcu := cnt_upd (L := lst listed) h1 hiN
    by_cases hiN' : i = N
    · subst hiN'
      have hall : ∀ j, j < i → lst listed j = true := fun j hj => by
        have := List.all_eq_true.1 hl j (List.mem_range.2 hj)
        rw [ho] at this
        obtain ⟨e, he, h3⟩ := List.any_eq_true.1 (show (o.after.toList.any fun e => Region.binds .any e && decide (e.on = j)) = true from this)
        simp only [Bool.and_eq_true, decide_eq_true_eq] at h3
        have := h2 e (Array.mem_toList_iff.1 he) h3.1
        rw [h3.2] at this
        exact getD_true_of_false this
      refine wpOpIn_mono (fun a' w' hq => ?_) (last (lst listed) hall)
      have h0 : ∀ j, j < i + 1 → updL (lst listed) i j = true := fun j hj => by
        rw [updL]; split
        · rfl
        · exact hall j (by omega)
      have hr : Region.ready .any ops (listed.setIfInBounds i true) = [] := by
        cases hr : Region.ready .any ops (listed.setIfInBounds i true) with
        | nil => rfl
        | cons j r =>
          have h5 := (mem_ready.1 (show j ∈ Region.ready .any ops (listed.setIfInBounds i true) by rw [hr]; exact List.mem_cons_self ..)).1
          have h6 : lst (listed.setIfInBounds i true) j = false := h5
          rw [lst_all (N := i + 1) (by rw [Array.size_setIfInBounds]; exact hs) (fun j hj => by rw [lst_set (by omega)]; exact h0 j hj)] at h6; cases h6
      exact wpAnyIn_done hr hq fuel
    · refine step i (by omega) (lst listed) (fun o' ho' e he hb => getD_true_of_false (h2 e (by rw [ho] at ho'; cases ho'; exact he) hb)) _ ?_
      rw [← lst_set (by omega)]
      refine wpAnyIn_still_last A w hN hd hl step last fuel _ (by rw [Array.size_setIfInBounds]; exact hs) ?_ ?_
      · rw [lst_set (by omega), updL, if_neg (by omega)]; exact hf
      · rw [lst_set (by omega)]; omega
end
end Go.Proofs.Ytipcelgoachjjaa
