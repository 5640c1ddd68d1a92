/- Stage 10 (transcript): TpRunM, put together by merge10.py. -/
import Derived.Test.YtmfcepfagbkceaaGreatDoorOb
namespace Go.Proofs.YtmfcepfagbkceaaGreatDoor
set_option linter.unusedSimpArgs false
set_option linter.unusedVariables false
def txB (x : Nd) : Bool := decide (x.kd = 1)
def keepB (x : Nd) : Bool := !(decide (x.kd = 1) && x.tx.isEmpty)
def fltL (l : List Nd) : List Nd := l.filter keepB
def runLen : List Nd → Nat
  | [] => 0
  | x :: l => if x.kd = 1 then 1 + (l.takeWhile txB).length else 1
def runsF : Nat → List Nd → List (List Nd)
  | 0, _ => []
  | _ + 1, [] => []
  | f + 1, x :: l => (x :: l).take (runLen (x :: l)) :: runsF f ((x :: l).drop (runLen (x :: l)))
def runsL (l : List Nd) : List (List Nd) := runsF l.length l
theorem runLen_pos {l : List Nd} (h : l ≠ []) : 1 ≤ runLen l := by
  cases l with
  | nil => exact absurd rfl h
  | cons x l => rw [runLen]; split <;> omega
theorem take_len {α : Type} (p : α → Bool) : ∀ l : List α, (l.takeWhile p).length ≤ l.length
  | [] => Nat.le_refl _
  | x :: l => by
    rw [List.takeWhile_cons]
    split
    · have := take_len p l; simp; omega
    · simp
theorem runLen_le (l : List Nd) : runLen l ≤ l.length := by
  cases l with
  | nil => rw [runLen]; exact Nat.zero_le _
  | cons x l =>
    rw [runLen, List.length_cons]
    have := take_len txB l
    split <;> omega
theorem runsF_fuel : ∀ (f g : Nat) (l : List Nd), l.length ≤ f → l.length ≤ g → runsF f l = runsF g l
  | 0, 0, _, _, _ => rfl
  | 0, g + 1, l, h, _ => by
    have : l = [] := List.eq_nil_of_length_eq_zero (by omega)
    subst this; rfl
  | f + 1, 0, l, _, h => by
    have : l = [] := List.eq_nil_of_length_eq_zero (by omega)
    subst this; rfl
  | f + 1, g + 1, [], _, _ => rfl
  | f + 1, g + 1, x :: l, h1, h2 => by
    rw [List.length_cons] at h1 h2
    have hp := runLen_pos (l := x :: l) (by simp)
    rw [runsF, runsF, runsF_fuel f g _ (by rw [List.length_drop, List.length_cons]; omega) (by rw [List.length_drop, List.length_cons]; omega)]
theorem runsL_cons {l : List Nd} (h : l ≠ []) : runsL l = l.take (runLen l) :: runsL (l.drop (runLen l)) := by
  cases l with
  | nil => exact absurd rfl h
  | cons x l =>
    have hp := runLen_pos (l := x :: l) (by simp)
    unfold runsL
    rw [List.length_cons, runsF, runsF_fuel l.length _ _ (by rw [List.length_drop, List.length_cons]; omega) (Nat.le_refl _)]
theorem runsL_nil : runsL [] = [] := rfl
theorem runs_flat : ∀ (n : Nat) (l : List Nd), l.length ≤ n → (runsL l).flatten = l
  | 0, l, h => by
    have : l = [] := List.eq_nil_of_length_eq_zero (by omega)
    subst this; rfl
  | n + 1, l, h => by
    by_cases hl : l = []
    · subst hl; rfl
    · have hp := runLen_pos hl
      have hlen : 0 < l.length := List.length_pos_iff.2 hl
      rw [runsL_cons hl, List.flatten_cons, runs_flat n _ (by rw [List.length_drop]; omega), List.take_append_drop]
theorem runs_len : ∀ (n : Nat) (l : List Nd), l.length ≤ n → (runsL l).length ≤ l.length
  | 0, l, h => by
    have : l = [] := List.eq_nil_of_length_eq_zero (by omega)
    subst this; exact Nat.le_refl _
  | n + 1, l, h => by
    by_cases hl : l = []
    · subst hl; exact Nat.le_refl _
    · have hp := runLen_pos hl
      have hle := runLen_le l
      have hlen : 0 < l.length := List.length_pos_iff.2 hl
      have := runs_len n (l.drop (runLen l)) (by rw [List.length_drop]; omega)
      rw [runsL_cons hl, List.length_cons]
      rw [List.length_drop] at this
      omega
def txtJ (r : List Nd) : Bs := r.flatMap Nd.tx
def mrun : List Nd → Nd
  | [] => .mk 0 [] 0 []
  | x :: r => .mk x.kd (txtJ (x :: r)) x.nm (mrgL [] x.ps)
theorem mrg_flt : ∀ (l out : List Nd), mrgL out l = mrgL out (fltL l)
  | [], out => rfl
  | x :: l, out => by
    unfold fltL
    rw [mrgL, List.filter_cons]
    by_cases h : x.kd = 1 ∧ x.tx = []
    · rw [if_pos h, if_neg (by unfold keepB; simp [h.1, h.2])]
      exact mrg_flt l out
    · have hk : keepB x = true := by
        unfold keepB
        by_cases h1 : x.kd = 1
        · have : x.tx ≠ [] := fun e => h ⟨h1, e⟩
          simp [h1, this]
        · simp [h1]
      rw [if_neg h, if_pos hk, mrgL, if_neg h]
      exact mrg_flt l _
theorem mrg_append : ∀ (a b out : List Nd), mrgL out (a ++ b) = mrgL (mrgL out a) b
  | [], b, out => by rw [mrgL]; rfl
  | x :: a, b, out => by
    rw [List.cons_append, mrgL, mrgL]
    split
    · exact mrg_append a b out
    · exact mrg_append a b _
theorem keep_not {x : Nd} (h : keepB x = true) : ¬ (x.kd = 1 ∧ x.tx = []) := by
  rintro ⟨h1, h2⟩
  unfold keepB at h
  simp [h1, h2] at h
theorem push_text (out : List Nd) {x y : Nd} (hx : x.kd = 1) (hy : y.kd = 1) : pushM (out ++ [y]) x = out ++ [.mk y.kd (y.tx ++ x.tx) y.nm y.ps] := by
  unfold pushM
  rw [List.getLast?_concat]
  show (if x.kd = 1 ∧ y.kd = 1 then _ else _) = _
  rw [if_pos ⟨hx, hy⟩, List.dropLast_concat]
theorem mrg_texts : ∀ (ts : List Nd) (out : List Nd) (y : Nd), y.kd = 1 → (∀ x ∈ ts, x.kd = 1 ∧ keepB x = true) → mrgL (out ++ [y]) ts = out ++ [.mk y.kd (y.tx ++ txtJ ts) y.nm y.ps]
  | [], out, y, hy, _ => by
    obtain ⟨k, t, n, p⟩ := y
    rw [mrgL]
    simp [txtJ, Nd.kd, Nd.tx, Nd.nm, Nd.ps]
  | x :: ts, out, y, hy, h => by
    obtain ⟨h1, h2⟩ := h x List.mem_cons_self
    obtain ⟨m1, m2, _, _⟩ := mrg_kd x
    rw [mrgL, if_neg (keep_not h2), push_text out (by rw [m1]; exact h1) hy, mrg_texts ts out (.mk y.kd (y.tx ++ (mrgN x).tx) y.nm y.ps) hy (fun z hz => h z (List.mem_cons_of_mem _ hz)), m2]
    show out ++ [Nd.mk y.kd ((y.tx ++ x.tx) ++ txtJ ts) y.nm y.ps] = _
    have : txtJ (x :: ts) = x.tx ++ txtJ ts := by unfold txtJ; rw [List.flatMap_cons]
    rw [this, List.append_assoc]
theorem mem_take {α : Type} (p : α → Bool) : ∀ (l : List α), ∀ x ∈ l.takeWhile p, p x = true ∧ x ∈ l
  | [], x, h => by cases h
  | y :: l, x, h => by
    rw [List.takeWhile_cons] at h
    split at h
    · rename_i hp
      rcases List.mem_cons.1 h with rfl | h
      · exact ⟨hp, List.mem_cons_self⟩
      · obtain ⟨h1, h2⟩ := mem_take p l x h
        exact ⟨h1, List.mem_cons_of_mem _ h2⟩
    · cases h
theorem drop_take {α : Type} (p : α → Bool) : ∀ (l : List α) {x : α} {r : List α}, l.drop (l.takeWhile p).length = x :: r → p x = false
  | [], x, r, h => by cases h
  | y :: l, x, r, h => by
    rw [List.takeWhile_cons] at h
    split at h
    · rw [List.length_cons, List.drop_succ_cons] at h
      exact drop_take p l h
    · rename_i hp
      rw [List.length_nil, List.drop_zero] at h
      injection h with h1 _
      subst h1
      simpa using hp
theorem take_take {α : Type} (p : α → Bool) : ∀ (l : List α), l.take (l.takeWhile p).length = l.takeWhile p
  | [] => rfl
  | y :: l => by
    rw [List.takeWhile_cons]
    split
    · rw [List.length_cons, List.take_succ_cons, take_take p l]
    · rfl
theorem mrg_runs : ∀ (n : Nat) (l out : List Nd), l.length ≤ n → (∀ x ∈ l, keepB x = true) → (∀ x r, l = x :: r → x.kd = 1 → lastN out = false) → mrgL out l = out ++ (runsL l).map mrun
  | 0, l, out, h, _, _ => by
    have : l = [] := List.eq_nil_of_length_eq_zero (by omega)
    subst this
    rw [mrgL, runsL_nil]; simp
  | n + 1, [], out, _, _, _ => by rw [mrgL, runsL_nil]; simp
  | n + 1, x :: l, out, h, hk, hb => by
    rw [List.length_cons] at h
    have hx := hk x List.mem_cons_self
    obtain ⟨m1, m2, m3, m4⟩ := mrg_kd x
    have hpush : pushM out (mrgN x) = out ++ [mrgN x] := push_new (fun e => hb x l rfl (by rw [← m1]; exact e))
    have hmn : mrgN x = .mk x.kd x.tx x.nm (mrgL [] x.ps) := by obtain ⟨k, t, m, p⟩ := x; rw [mrgN]; rfl
    rw [runsL_cons (by simp), List.map_cons]
    by_cases h1 : x.kd = 1
    · have e1 : runLen (x :: l) = (l.takeWhile txB).length + 1 := by rw [runLen, if_pos h1]; omega
      have e2 : (x :: l).take (runLen (x :: l)) = x :: l.takeWhile txB := by rw [e1, List.take_succ_cons, take_take]
      have e3 : (x :: l).drop (runLen (x :: l)) = l.drop (l.takeWhile txB).length := by rw [e1, List.drop_succ_cons]
      rw [e2, e3]
      have hs : x :: l = (x :: l.takeWhile txB) ++ l.drop (l.takeWhile txB).length := by
        rw [List.cons_append]
        congr 1
        have := List.take_append_drop (l.takeWhile txB).length l
        rw [take_take] at this
        exact this.symm
      have hA : mrgL out (x :: l.takeWhile txB) = out ++ [mrun (x :: l.takeWhile txB)] := by
        rw [mrgL, if_neg (keep_not hx), hpush, mrg_texts _ out (mrgN x) (by rw [m1]; exact h1) (fun z hz => by
          obtain ⟨h2, h3⟩ := mem_take txB l z hz
          exact ⟨by simpa [txB] using h2, hk z (List.mem_cons_of_mem _ h3)⟩), hmn]
        show out ++ [Nd.mk x.kd (x.tx ++ txtJ (l.takeWhile txB)) x.nm (mrgL [] x.ps)] = _
        rw [mrun]
        have : txtJ (x :: l.takeWhile txB) = x.tx ++ txtJ (l.takeWhile txB) := by unfold txtJ; rw [List.flatMap_cons]
        rw [this]
      calc mrgL out (x :: l) = mrgL out ((x :: l.takeWhile txB) ++ l.drop (l.takeWhile txB).length) := by rw [← hs]
        _ = mrgL (out ++ [mrun (x :: l.takeWhile txB)]) (l.drop (l.takeWhile txB).length) := by rw [mrg_append, hA]
        _ = _ := by
          rw [mrg_runs n _ _ (by rw [List.length_drop]; omega) (fun z hz => hk z (List.mem_cons_of_mem _ (List.mem_of_mem_drop hz))) (fun z r hz hz1 => by
            have := drop_take txB l hz
            unfold txB at this
            simp [hz1] at this), List.append_assoc]
          rfl
    · have e1 : runLen (x :: l) = 1 := by rw [runLen, if_neg h1]
      have e4 : mrun [x] = mrgN x := by
        rw [mrun, hmn]
        simp [txtJ]
      rw [e1, List.drop_one, List.tail_cons, List.take_succ_cons, List.take_zero, e4, mrgL, if_neg (keep_not hx), hpush, mrg_runs n l _ (by omega) (fun z hz => hk z (List.mem_cons_of_mem _ hz)) (fun z r hz hz1 => by
        rw [last_push, m1]
        simp [h1]), List.append_assoc]
      rfl
theorem merge_is (l : List Nd) : mrgL [] l = (runsL (fltL l)).map mrun := by
  rw [mrg_flt, mrg_runs _ (fltL l) [] (Nat.le_refl _) (fun x hx => (List.mem_filter.1 hx).2) (fun _ _ _ _ => rfl), List.nil_append]
theorem mrg_step {l : List Nd} {j : Nat} (h : j < l.length) : mrgL [] (l.take (j + 1)) = if l[j].kd = 1 ∧ l[j].tx = [] then mrgL [] (l.take j) else pushM (mrgL [] (l.take j)) (mrgN l[j]) := by
  rw [List.take_succ_eq_append_getElem h, mrg_append, mrgL]
  split <;> rw [mrgL]
end Go.Proofs.YtmfcepfagbkceaaGreatDoor
