/- The forms of each tag: as an empty one, or with an opening and a closing one. -/
import Derived.Test.YtdgihkgomfpmoaaDoorMkList
namespace Go.Proofs.YtdgihkgomfpmoaaDoor

theorem scan_one {k : Int} {n v : Bs} (hk : k = 2 ∨ k = 3 ∨ k = 4) (ht : isTag n = true) (hv : ∀ c ∈ v, plainC c = true) (h3 : k = 3 → v = []) (hl : (formF k n v).length ≤ 65536) :
    ((scanR (formF k n v)).2 = 0) ↔ goodT k n v = true := by
  obtain ⟨hn0, hn⟩ := tag_plain ht
  constructor
  · intro h
    obtain ⟨A, e⟩ : ∃ A, scanR (formF k n v) = (A, 0) := ⟨(scanR (formF k n v)).1, by rw [← h]⟩
    obtain ⟨_, h2, hp⟩ := scan_iff.1 e
    -- the first lexeme is the tag
    have hm : ∃ m, formF k n v = 60 :: (m ++ [62]) ∧ ∀ c ∈ m, c ≠ 60 ∧ c ≠ 62 := by
      have hb := body_plain hn hv
      rcases hk with rfl | rfl | rfl
      · exact ⟨bodyL n v, rfl, fun c hc => ⟨(hb c hc).1, (hb c hc).2.1⟩⟩
      · refine ⟨47 :: n, rfl, fun c hc => ?_⟩
        rcases List.mem_cons.1 hc with rfl | hc
        · decide
        · have := hn c hc
          unfold plainC at this
          simp only [Bool.and_eq_true, decide_eq_true_eq] at this
          exact ⟨this.1.2, this.2⟩
      · refine ⟨bodyL n v ++ [47], by simp [formF], fun c hc => ?_⟩
        rcases List.mem_append.1 hc with hc | hc
        · exact ⟨(hb c hc).1, (hb c hc).2.1⟩
        · have hc : c = 47 := by simpa using hc
          subst hc
          decide
    obtain ⟨m, hm, hmm⟩ := hm
    have hsc : scanR (formF k n v) = scanF (formF k n v).length 0 (formF k n v) := by unfold scanR; rw [if_neg (by omega)]
    rw [hsc] at h
    obtain ⟨f, hf⟩ : ∃ f, (formF k n v).length = f + 1 := ⟨(formF k n v).length - 1, by rw [hm]; simp⟩
    rw [hf] at h
    have htr : (tagR (formF k n v)).2 = 0 := by
      rw [hm] at h ⊢
      have hc := cut_tag (r := []) hmm
      rw [List.append_nil] at hc
      rw [scanF, if_pos rfl, hc.1, hc.2, if_neg (by simp)] at h
      have e1 : (60 :: m : Bs) ++ [62] = 60 :: (m ++ [62]) := rfl
      rw [e1] at h
      by_cases ht : (tagR (60 :: (m ++ [62]))).2 = 0
      · exact ht
      · rw [if_neg ht] at h
        exact h
    obtain ⟨h4, h5⟩ := tag_of (p := formF k n v) (x := (tagR (formF k n v)).1) (by rw [← htr])
    obtain ⟨r1, r2, r3⟩ := tag_read hk hn0 hn hv h3
    have r4 := kd_read hk hn0 hn hv h3
    have hx : (tagR (formF k n v)).1 = (kdOf (formF k n v), n, v) := by
      unfold tagR at htr ⊢
      rw [r2, r3] at htr ⊢
      rw [if_pos ht] at htr ⊢
      by_cases hq : formF (kdOf (formF k n v)) n v = formF k n v ∧ goodT (kdOf (formF k n v)) n v = true
      · rw [if_pos hq]
      · rw [if_neg hq] at htr
        cases htr
    rw [hx] at h4 h5
    simp only at h4 h5
    have hkk : kdOf (formF k n v) = k := by
      have hl := congrArg List.length h4
      rw [r4] at hl ⊢
      rcases hk with rfl | rfl | rfl
      · rw [if_neg (by decide)] at hl ⊢
        by_cases he : emptyT n = true
        · rw [if_pos he] at hl
          simp [formF] at hl
        · rw [if_neg he]
      · rw [if_pos rfl]
      · rw [if_neg (by decide)] at hl ⊢
        by_cases he : emptyT n = true
        · rw [if_pos he]
        · rw [if_neg he] at hl
          simp [formF] at hl
    rw [hkk] at h5
    exact h5
  · intro h
    have : scanR (formF k n v) = ([⟨k, n, v, 0⟩], 0) := by
      have hk1 : k ≠ 1 := by omega
      refine scan_iff.2 ⟨hl, ?_, by simp [prn, form]⟩
      rw [valB, valB]
      rw [show okX false ⟨k, n, v, 0⟩ = true from by unfold okX; rw [if_neg hk1]; exact h]
      rfl
    rw [this]
/-- P9.7 -/
theorem tag_forms {n v : Bs} (ht : isTag n = true) (hv : ∀ c ∈ v, plainC c = true) (hl : v.length ≤ 20) :
    ((scanR (formF 2 n v)).2 = 0 → (scanR (formF 4 n v)).2 ≠ 0 ∧ (scanR (formF 3 n [])).2 = 0) ∧ ((scanR (formF 4 n v)).2 = 0 → (scanR (formF 3 n [])).2 ≠ 0) := by
  have hn : n.length ≤ 7 := by
    unfold isTag tagsL at ht
    simp only [List.contains_cons, List.contains_nil, Bool.or_false, Bool.or_eq_true, beq_iff_eq] at ht
    rcases ht with rfl | rfl | rfl | rfl | rfl | rfl | rfl | rfl | rfl | rfl <;> decide
  have hb : (bodyL n v).length ≤ 28 := by
    unfold bodyL
    split
    · omega
    · rw [List.length_append, List.length_cons]; omega
  have s2 := scan_one (k := 2) (.inl rfl) ht hv (fun e => absurd e (by decide)) (by simp [formF]; omega)
  have s4 := scan_one (k := 4) (.inr (.inr rfl)) ht hv (fun e => absurd e (by decide)) (by simp [formF]; omega)
  have s3 := scan_one (k := 3) (v := []) (.inr (.inl rfl)) ht (by simp) (fun _ => rfl) (by simp [formF]; omega)
  rw [s2, s4, s3, Ne, Ne, s4, s3]
  unfold goodT
  cases h1 : emptyT n <;> simp [ht]
end Go.Proofs.YtdgihkgomfpmoaaDoor
