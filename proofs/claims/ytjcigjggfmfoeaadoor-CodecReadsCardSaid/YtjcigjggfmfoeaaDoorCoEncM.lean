/- How Encode writes: the state behind some of the values, plain mathematics. -/
import Derived.Test.YtjcigjggfmfoeaaDoorCoDec
namespace Go.Proofs.YtjcigjggfmfoeaaDoor
set_option linter.unusedSimpArgs false
set_option linter.unusedVariables false

/-- what is written, and how many lists are open, behind one more value -/
def stE (o : List UInt8 × Nat) (x : Nat × Val) : List UInt8 × Nat := (o.1 ++ List.replicate (o.2 - (x.1 - 1)) 101 ++ begV x.2, if x.2.kd = 3 then x.1 else x.1 - 1)
theorem st_vals : (∀ v, allV v = 0 → ∀ lv out op, 1 ≤ lv → lv - 1 ≤ op → lv - 1 ≤ ((vals lv v).foldl stE (out, op)).2 ∧
      ((vals lv v).foldl stE (out, op)).1 ++ List.replicate (((vals lv v).foldl stE (out, op)).2 - (lv - 1)) 101 = out ++ List.replicate (op - (lv - 1)) 101 ++ enc v) ∧
    ∀ l, allsV l = 0 → ∀ lv out op, 1 ≤ lv → lv - 1 ≤ op → lv - 1 ≤ ((valss lv l).foldl stE (out, op)).2 ∧
      ((valss lv l).foldl stE (out, op)).1 ++ List.replicate (((valss lv l).foldl stE (out, op)).2 - (lv - 1)) 101 = out ++ List.replicate (op - (lv - 1)) 101 ++ encs l :=
  Val.both (fun k n t l h h0 lv out op hlv hop => by
    rw [allV] at h0
    by_cases hs : single k n t l.length = 0
    · rw [if_pos hs] at h0
      have hk := (single_zero hs).1
      by_cases h3 : k = 3
      · subst h3
        rw [vals, if_pos rfl, List.foldl_cons, stE]
        have e : (if (Val.mk 3 n t l).kd = 3 then lv else lv - 1) = lv := if_pos rfl
        simp only [e]
        have hb : begV (.mk 3 n t l) = [108] := by rw [begV, if_neg (by decide), if_neg (by decide)]
        rw [hb]
        obtain ⟨h1, h2⟩ := h h0 (lv + 1) (out ++ List.replicate (op - (lv - 1)) 101 ++ [108]) lv (by omega) (by omega)
        generalize (valss (lv + 1) l).foldl stE (out ++ List.replicate (op - (lv - 1)) 101 ++ [108], lv) = r at h1 h2 ⊢
        refine ⟨by omega, ?_⟩
        have e2 : r.2 - (lv - 1) = (r.2 - lv) + 1 := by omega
        rw [Nat.add_sub_cancel, Nat.sub_self, List.replicate_zero, List.append_nil] at h2
        rw [e2, List.replicate_succ', ← List.append_assoc, h2, enc, if_neg (by decide), if_neg (by decide)]
        simp
      · rw [vals, if_neg h3, List.foldl_cons, List.foldl_nil, stE]
        have e : (if (Val.mk k n t l).kd = 3 then lv else lv - 1) = lv - 1 := if_neg h3
        simp only [e]
        refine ⟨Nat.le_refl _, ?_⟩
        rw [Nat.sub_self, List.replicate_zero, List.append_nil]
        congr 1
        rw [begV, enc]
        by_cases h1 : k = 1
        · rw [if_pos h1, if_pos h1]
        · have h2 : k = 2 := by omega
          rw [if_neg h1, if_neg h1, if_pos h2, if_pos h2]
    · rw [if_neg hs] at h0; exact absurd h0 hs) (fun _ lv out op hlv hop => by
    rw [valss, List.foldl_nil, encs, List.append_nil]; exact ⟨hop, rfl⟩) (fun x l h h' h0 lv out op hlv hop => by
    rw [allsV] at h0
    by_cases hx : allV x = 0
    · rw [if_pos hx] at h0
      rw [valss, List.foldl_append]
      obtain ⟨h1, h2⟩ := h hx lv out op hlv hop
      generalize (vals lv x).foldl stE (out, op) = r at h1 h2 ⊢
      obtain ⟨h3, h4⟩ := h' h0 lv r.1 r.2 hlv h1
      refine ⟨h3, ?_⟩
      rw [h4, h2, encs]; simp
    · rw [if_neg hx] at h0; exact absurd h0 hx)
/-- each level fits the lists that are open -/
def okL : Nat → List (Nat × Val) → Prop
  | _, [] => True
  | op, x :: L => 1 ≤ x.1 ∧ x.1 - 1 ≤ op ∧ okL (if x.2.kd = 3 then x.1 else x.1 - 1) L
theorem okL_vals : (∀ v, ∀ lv op rest, 1 ≤ lv → lv - 1 ≤ op → (∀ op', lv - 1 ≤ op' → okL op' rest) → okL op (vals lv v ++ rest)) ∧
    ∀ l, ∀ lv op rest, 1 ≤ lv → lv - 1 ≤ op → (∀ op', lv - 1 ≤ op' → okL op' rest) → okL op (valss lv l ++ rest) :=
  Val.both (fun k n t l h lv op rest hlv hop hr => by
    rw [vals, List.cons_append, okL]
    refine ⟨hlv, hop, ?_⟩
    by_cases h3 : k = 3
    · have e : (if (Val.mk k n t l).kd = 3 then lv else lv - 1) = lv := if_pos h3
      simp only [e, if_pos h3]
      exact h (lv + 1) lv rest (by omega) (by omega) (fun op' h' => hr op' (by omega))
    · have e : (if (Val.mk k n t l).kd = 3 then lv else lv - 1) = lv - 1 := if_neg h3
      simp only [e, if_neg h3]
      exact hr _ (Nat.le_refl _)) (fun lv op rest hlv hop hr => by
    rw [valss]; exact hr op hop) (fun x l h h' lv op rest hlv hop hr => by
    rw [valss, List.append_assoc]
    exact h lv op _ hlv hop (fun op' h1 => h' lv op' rest hlv h1 hr))
theorem okL_at : ∀ {L : List (Nat × Val)} {o : List UInt8 × Nat} {x : Nat × Val} {R : List (Nat × Val)}, okL o.2 (L ++ x :: R) → 1 ≤ x.1 ∧ x.1 - 1 ≤ (L.foldl stE o).2
  | [], o, x, R, h => by rw [List.nil_append, okL] at h; exact ⟨h.1, h.2.1⟩
  | y :: L, o, x, R, h => by
    rw [List.cons_append, okL] at h
    rw [List.foldl_cons]
    exact okL_at (o := stE o y) h.2.2
theorem st_grows : ∀ {L : List (Nat × Val)} {o : List UInt8 × Nat}, okL o.2 L → o.1.length + o.2 ≤ (L.foldl stE o).1.length + (L.foldl stE o).2
  | [], o, _ => Nat.le_refl _
  | x :: L, o, h => by
    rw [okL] at h
    obtain ⟨h1, h2, h3⟩ := h
    have := st_grows (L := L) (o := stE o x) h3
    rw [List.foldl_cons]
    refine Nat.le_trans ?_ this
    rw [stE]
    simp only [List.length_append, List.length_replicate]
    split <;> omega
theorem okL_app : ∀ {L : List (Nat × Val)} {o : List UInt8 × Nat} {R : List (Nat × Val)}, okL o.2 (L ++ R) → okL o.2 L ∧ okL (L.foldl stE o).2 R
  | [], o, R, h => ⟨by rw [okL]; trivial, h⟩
  | y :: L, o, R, h => by
    rw [List.cons_append, okL] at h
    obtain ⟨h1, h2⟩ := okL_app (L := L) (o := stE o y) h.2.2
    exact ⟨by rw [okL]; exact ⟨h.1, h.2.1, h1⟩, h2⟩
/-- what holds at each value of one that is valid -/
theorem enc_step {v : Val} (h0 : allV v = 0) {L : List (Nat × Val)} {x : Nat × Val} (hp : L ++ [x] <+: vals 1 v) :
    1 ≤ x.1 ∧ x.1 - 1 ≤ (L.foldl stE ([], 0)).2 ∧ ((L ++ [x]).foldl stE ([], 0)).1.length + ((L ++ [x]).foldl stE ([], 0)).2 ≤ (enc v).length := by
  obtain ⟨R, hR⟩ := hp
  have hok : okL 0 (vals 1 v) := by
    have := okL_vals.1 v 1 0 [] (by omega) (by omega) (fun _ _ => by rw [okL]; trivial)
    rwa [List.append_nil] at this
  have h1 := hok
  rw [← hR, List.append_assoc] at h1
  obtain ⟨g1, g2⟩ := okL_at (o := ([], 0)) h1
  refine ⟨g1, g2, ?_⟩
  rw [← hR] at hok
  obtain ⟨_, h3⟩ := okL_app (o := ([], 0)) hok
  have h4 := st_grows h3
  have h5 := st_vals.1 v h0 1 [] 0 (by omega) (by omega)
  rw [← List.foldl_append, hR] at h4
  have h6 := congrArg List.length h5.2
  simp at h6
  omega
theorem enc_end {v : Val} (h0 : allV v = 0) : ((vals 1 v).foldl stE ([], 0)).1 ++ List.replicate ((vals 1 v).foldl stE ([], 0)).2 101 = enc v := by
  have h5 := st_vals.1 v h0 1 [] 0 (by omega) (by omega)
  simpa using h5.2
theorem alone_of_all {v : Val} (h0 : allV v = 0) {x : Nat × Val} (hx : x ∈ vals 1 v) : aloneV x.2 = 0 := by
  have h := firstE_all.1 v 1
  rw [h0] at h
  obtain ⟨A, B, e⟩ := List.append_of_mem hx
  rw [e, List.foldl_append, List.foldl_cons] at h
  by_cases hA : A.foldl firstE 0 = 0
  · rw [hA] at h
    by_cases hx0 : firstE 0 x = 0
    · rw [firstE, if_pos rfl] at hx0; exact hx0
    · rw [firstE_stuck hx0] at h; exact absurd h hx0
  · have : firstE (A.foldl firstE 0) x = A.foldl firstE 0 := by rw [firstE, if_neg hA]
    rw [this, firstE_stuck hA] at h; exact absurd h hA
theorem begV_eq (x : Val) : begV x = begV (.mk x.kd x.nm x.tx []) := by obtain ⟨k, n, t, l⟩ := x; rfl
end Go.Proofs.YtjcigjggfmfoeaaDoor
