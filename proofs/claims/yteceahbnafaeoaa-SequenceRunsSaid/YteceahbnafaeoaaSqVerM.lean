/- What the program's Verify asks is what the chapter asks: a cover that is a permutation of the indices has no empty part if it has no more parts than an increasing subsequence has indices. -/
import Derived.Test.YteceahbnafaeoaaSqInv
namespace Go.Proofs.Yteceahbnafaeoaa

theorem chain_pw {R : Int → Int → Prop} (ht : ∀ a b c, R a b → R b c → R a c) : ∀ c : List Int, (∀ i, 0 < i → i < c.length → R (ix c (i - 1)) (ix c i)) → c.Pairwise R
  | [], _ => List.Pairwise.nil
  | x :: c, h => by
    have ih := chain_pw ht c (fun i h0 hi => by
      have := h (i + 1) (by omega) (by simpa using hi)
      rw [Nat.add_sub_cancel] at this
      rw [show ix (x :: c) (i + 1) = ix c i from rfl] at this
      rwa [show ix (x :: c) i = ix c (i - 1) by
        obtain ⟨j, rfl⟩ : ∃ j, i = j + 1 := ⟨i - 1, by omega⟩
        rfl] at this)
    refine List.pairwise_cons.2 ⟨fun y hy => ?_, ih⟩
    cases c with
    | nil => cases hy
    | cons z c =>
      have h1 : R x z := h 1 (by omega) (by simp)
      rcases List.mem_cons.1 hy with rfl | hy
      · exact h1
      · exact ht _ _ _ h1 ((List.pairwise_cons.1 ih).1 y hy)
theorem inc_up {l c : List Int} (h : incB l c = true) : (∀ x ∈ c, inB l x = true) ∧ c.Pairwise (fun a b => a < b ∧ at0 l a < at0 l b) := by
  unfold incB at h
  rw [List.all_eq_true] at h
  refine ⟨fun x hx => ?_, chain_pw (fun a b c h1 h2 => ⟨Int.lt_trans h1.1 h2.1, Int.lt_trans h1.2 h2.2⟩) c (fun i h0 hi => ?_)⟩
  · obtain ⟨i, hi, rfl⟩ := List.getElem_of_mem hx
    have := h i (by simpa using hi)
    unfold okU at this
    rw [Bool.and_eq_true] at this
    rw [← ix_get c i hi]; exact this.1
  · have := h i (by simpa using hi)
    unfold okU at this
    rw [Bool.and_eq_true, decide_eq_false (by omega : ¬ i = 0), Bool.false_or, Bool.and_eq_true, decide_eq_true_eq, decide_eq_true_eq] at this
    exact this.2
theorem des_down {l c : List Int} (h : desB l c = true) : (∀ x ∈ c, inB l x = true) ∧ c.Pairwise (fun a b => a < b ∧ at0 l b ≤ at0 l a) := by
  unfold desB at h
  rw [List.all_eq_true] at h
  refine ⟨fun x hx => ?_, chain_pw (fun a b c h1 h2 => ⟨Int.lt_trans h1.1 h2.1, Int.le_trans h2.2 h1.2⟩) c (fun i h0 hi => ?_)⟩
  · obtain ⟨i, hi, rfl⟩ := List.getElem_of_mem hx
    have := h i (by simpa using hi)
    unfold okD at this
    rw [Bool.and_eq_true] at this
    rw [← ix_get c i hi]; exact this.1
  · have := h i (by simpa using hi)
    unfold okD at this
    rw [Bool.and_eq_true, decide_eq_false (by omega : ¬ i = 0), Bool.false_or, Bool.and_eq_true, decide_eq_true_eq, decide_eq_true_eq] at this
    exact this.2
theorem pw_two {R : Int → Int → Prop} {c : List Int} (h : c.Pairwise R) {a b : Int} (ha : a ∈ c) (hb : b ∈ c) : a = b ∨ R a b ∨ R b a := by
  obtain ⟨i, hi, rfl⟩ := List.getElem_of_mem ha
  obtain ⟨j, hj, rfl⟩ := List.getElem_of_mem hb
  rcases Nat.lt_trichotomy i j with h1 | h1 | h1
  · exact .inr (.inl (List.pairwise_iff_getElem.1 h i j hi hj h1))
  · subst h1; exact .inl rfl
  · exact .inr (.inr (List.pairwise_iff_getElem.1 h j i hj hi h1))
theorem one_of {l is c : List Int} (h : incB l is = true) (hc : desB l c = true) {a b : Int} (ha : a ∈ is) (hb : b ∈ is) (ha' : a ∈ c) (hb' : b ∈ c) : a = b := by
  rcases pw_two (inc_up h).2 ha hb with e | e | e
  · exact e
  · rcases pw_two (des_down hc).2 ha' hb' with f | f | f <;> omega
  · rcases pw_two (des_down hc).2 ha' hb' with f | f | f <;> omega
theorem nodup_one : ∀ {s : List Int}, s.Nodup → (∀ a ∈ s, ∀ b ∈ s, a = b) → s.length ≤ 1
  | [], _, _ => by simp
  | [_], _, _ => by simp
  | a :: b :: s, h, hab => by
    have e := hab a (by simp) b (by simp)
    exact absurd (List.nodup_cons.1 h).1 (by rw [e]; simp)
/-- as many parts hold something as there are elements of which no part has two -/
theorem parts_ge : ∀ (cov : List (List Int)) (is : List Int), is.Nodup → (∀ a ∈ is, a ∈ cov.flatten) → (∀ c ∈ cov, ∀ a ∈ is, ∀ b ∈ is, a ∈ c → b ∈ c → a = b) → is.length ≤ (cov.filter (fun c => decide (0 < c.length))).length
  | [], is, _, h, _ => by
    cases is with
    | nil => simp
    | cons a _ => exact absurd (h a (by simp)) (by simp)
  | c :: cov, is, hn, h, h1 => by
    by_cases hc : 0 < c.length
    · rw [List.filter_cons_of_pos (by simpa using hc), List.length_cons]
      have ih := parts_ge cov (is.filter (fun a => decide (a ∉ c))) (hn.filter _) (fun a ha => by
        rw [List.mem_filter, decide_eq_true_eq] at ha
        have := h a ha.1
        rw [List.flatten_cons, List.mem_append] at this
        rcases this with e | e
        · exact absurd e ha.2
        · exact e) (fun d hd a ha b hb => h1 d (by simp [hd]) a (List.mem_filter.1 ha).1 b (List.mem_filter.1 hb).1)
      have h2 : (is.filter (fun a => decide (a ∈ c))).length ≤ 1 := nodup_one (hn.filter _) (fun a ha b hb => by
        rw [List.mem_filter, decide_eq_true_eq] at ha hb
        exact h1 c (by simp) a ha.1 b hb.1 ha.2 hb.2)
      have h3 : ∀ s : List Int, s.length = (s.filter (fun a => decide (a ∈ c))).length + (s.filter (fun a => decide (a ∉ c))).length := by
        intro s
        induction s with
        | nil => rfl
        | cons x s ih =>
          by_cases hx : x ∈ c
          · rw [List.filter_cons_of_pos (by simpa using hx), List.filter_cons_of_neg (by simpa using hx), List.length_cons, List.length_cons]; omega
          · rw [List.filter_cons_of_neg (by simpa using hx), List.filter_cons_of_pos (by simpa using hx), List.length_cons, List.length_cons]; omega
      have := h3 is
      omega
    · obtain rfl : c = [] := List.length_eq_zero_iff.1 (by omega)
      rw [List.filter_cons_of_neg (by simp)]
      exact parts_ge cov is hn (fun a ha => by simpa using h a ha) (fun d hd => h1 d (by simp [hd]))
theorem pw_nodup {l is : List Int} (h : incB l is = true) : is.Nodup := (inc_up h).2.imp (fun hab => by have := hab.1; intro e; omega)
theorem no_empty {l is : List Int} {cov : List (List Int)} (hi : incB l is = true) (hl : is.length = cov.length) (hd : cov.all (desB l) = true) (hc : ∀ a : Int, inB l a = true → a ∈ cov.flatten) : cov.all (pileB l) = true := by
  rw [List.all_eq_true] at hd ⊢
  have h := parts_ge cov is (pw_nodup hi) (fun a ha => hc a ((inc_up hi).1 a ha)) (fun c hc a ha b hb => one_of hi (hd c hc) ha hb)
  have h2 : cov.filter (fun c => decide (0 < c.length)) = cov := (List.filter_sublist).eq_of_length (by
    have := List.length_filter_le (fun c : List Int => decide (0 < c.length)) cov
    omega)
  intro c hc
  have := List.filter_eq_self.1 h2 c hc
  unfold pileB
  rw [this, hd c hc]; rfl
theorem in_nat {l : List Int} {a : Int} (h : inB l a = true) : ∃ n : Nat, n < l.length ∧ a = n := by
  unfold inB at h
  rw [Bool.and_eq_true, decide_eq_true_eq, decide_eq_true_eq] at h
  exact ⟨a.toNat, by omega, by omega⟩
theorem in_of {l : List Int} {n : Nat} (h : n < l.length) : inB l n = true := by
  unfold inB; rw [decide_eq_true (by omega), decide_eq_true (by omega)]; rfl
/-- the numbers below n, as integers -/
def upN (n : Nat) : List Int := (List.range n).map (fun k : Nat => (k : Int))
theorem upN_mem {n : Nat} {a : Int} : a ∈ upN n ↔ ∃ k : Nat, k < n ∧ a = k := by
  unfold upN
  simp only [List.mem_map, List.mem_range]
  exact ⟨fun ⟨k, h, e⟩ => ⟨k, h, e.symm⟩, fun ⟨k, h, e⟩ => ⟨k, h, e.symm⟩⟩
theorem upN_nodup (n : Nat) : (upN n).Nodup := List.pairwise_map.2 (List.nodup_range.imp (fun h e => h (by omega)))
theorem nodup_len : ∀ f g : List Int, f.Nodup → (∀ a ∈ f, a ∈ g) → f.length ≤ g.length
  | [], _, _, _ => Nat.zero_le _
  | a :: f, g, hn, h => by
    obtain ⟨h1, h2⟩ := List.nodup_cons.1 hn
    have hg : a ∈ g := h a (by simp)
    have := nodup_len f (g.erase a) h2 (fun b hb => (List.mem_erase_of_ne (by rintro rfl; exact h1 hb)).2 (h b (by simp [hb])))
    rw [List.length_erase_of_mem hg] at this
    have := List.length_pos_of_mem hg
    rw [List.length_cons]; omega
theorem full_of {f : List Int} {n : Nat} (hn : f.Nodup) (hl : f.length = n) (hm : ∀ a ∈ f, a ∈ upN n) : ∀ a ∈ upN n, a ∈ f := by
  intro a ha
  refine Classical.byContradiction fun h => ?_
  have := nodup_len f ((upN n).erase a) hn (fun b hb => (List.mem_erase_of_ne (by rintro rfl; exact h hb)).2 (hm b hb))
  rw [List.length_erase_of_mem ha] at this
  have h2 := List.length_pos_of_mem ha
  simp [upN] at this h2
  omega
theorem in_len {l f : List Int} (h : f.length = l.length) (a : Int) : inB f a = inB l a := by unfold inB; rw [h]
/-- all counts are 1 exactly if it is a permutation of the indices -/
theorem cnt_perm {l : List Int} {cov : List (List Int)} (hin : ∀ a ∈ cov.flatten, inB l a = true) : cntB l cov = (decide (cov.flatten.length = l.length) && permB cov.flatten) := by
  generalize hf : cov.flatten = f at hin ⊢
  have e : cntB l cov = (List.range l.length).all fun i => decide (f.count (i : Int) = 1) := by unfold cntB; rw [hf]
  rw [e, Bool.eq_iff_iff, List.all_eq_true, Bool.and_eq_true, decide_eq_true_eq]
  constructor
  · intro h
    have h1 : ∀ a, inB l a = true → f.count a = 1 := by
      intro a ha
      obtain ⟨k, hk, rfl⟩ := in_nat ha
      simpa using h k (by simpa using hk)
    have hn : f.Nodup := List.nodup_iff_count.2 (fun a => by
      by_cases ha : a ∈ f
      · rw [h1 a (hin a ha)]; exact Nat.le_refl _
      · rw [List.count_eq_zero_of_not_mem ha]; omega)
    have hp : f.Perm (upN l.length) := by
      refine (List.perm_ext_iff_of_nodup hn (upN_nodup _)).2 (fun a => ⟨fun ha => ?_, fun ha => ?_⟩)
      · obtain ⟨k, hk, rfl⟩ := in_nat (hin a ha)
        exact upN_mem.2 ⟨k, hk, rfl⟩
      · obtain ⟨k, hk, rfl⟩ := upN_mem.1 ha
        have := h1 k (in_of hk)
        exact List.count_pos_iff.1 (by omega)
    have hl : f.length = l.length := by rw [hp.length_eq]; simp [upN]
    refine ⟨hl, ?_⟩
    unfold permB
    rw [Bool.and_eq_true, decide_eq_true_eq, List.all_eq_true]
    exact ⟨fun a ha => by rw [in_len hl]; exact hin a ha, hn⟩
  · rintro ⟨hl, hp⟩ i hi
    have hi : i < l.length := by simpa using hi
    have hn := perm_nodup hp
    rw [decide_eq_true_eq]
    have := full_of hn hl (fun a ha => by
      obtain ⟨k, hk, rfl⟩ := in_nat (hin a ha)
      exact upN_mem.2 ⟨k, hk, rfl⟩) (i : Int) (upN_mem.2 ⟨i, hi, rfl⟩)
    have h1 := List.nodup_iff_count.1 hn (i : Int)
    have h2 := List.count_pos_iff.2 this
    omega
/-- what the program asks -/
def verP (l is : List Int) (cov : List (List Int)) : Bool := (decide (is.length = cov.length) && incB l is) && (cov.all (desB l) && (decide (cov.flatten.length = l.length) && permB cov.flatten))
theorem ver_prog (l is : List Int) (cov : List (List Int)) : verB l is cov = verP l is cov := by
  unfold verB verP
  by_cases h1 : incB l is = true
  · by_cases h2 : is.length = cov.length
    · rw [h1, decide_eq_true h2]
      simp only [Bool.and_true, Bool.true_and]
      by_cases h3 : cov.all (desB l) = true
      · have hin : ∀ a ∈ cov.flatten, inB l a = true := fun a ha => by
          obtain ⟨c, hc, hac⟩ := List.mem_flatten.1 ha
          exact (des_down (List.all_eq_true.1 h3 c hc)).1 a hac
        rw [← cnt_perm hin, h3, Bool.true_and]
        by_cases h4 : cntB l cov = true
        · rw [h4, Bool.and_true]
          refine no_empty h1 h2 h3 (fun a ha => ?_)
          obtain ⟨k, hk, rfl⟩ := in_nat ha
          unfold cntB at h4
          have := List.all_eq_true.1 h4 k (by simpa using hk)
          rw [decide_eq_true_eq] at this
          exact List.count_pos_iff.1 (by omega)
        · rw [Bool.eq_false_iff.2 h4, Bool.and_false]
      · have : cov.all (pileB l) = false := by
          rw [Bool.eq_false_iff]
          intro h
          apply h3
          rw [List.all_eq_true] at h ⊢
          intro c hc
          have := h c hc
          unfold pileB at this
          rw [Bool.and_eq_true] at this
          exact this.2
        rw [this, Bool.eq_false_iff.2 h3]; rfl
    · rw [decide_eq_false h2]; simp
  · rw [Bool.eq_false_iff.2 h1]; simp
/-- an increasing subsequence has no more indices than there are elements, and neither has a part -/
theorem pw_len {l c : List Int} (h1 : ∀ x ∈ c, inB l x = true) (h2 : c.Nodup) : c.length ≤ l.length := by
  have := nodup_len c (upN l.length) h2 (fun a ha => by
    obtain ⟨k, hk, rfl⟩ := in_nat (h1 a ha)
    exact upN_mem.2 ⟨k, hk, rfl⟩)
  simpa [upN] using this
theorem inc_length {l c : List Int} (h : incB l c = true) : c.length ≤ l.length := pw_len (inc_up h).1 (pw_nodup h)
theorem des_length {l c : List Int} (h : desB l c = true) : c.length ≤ l.length := pw_len (des_down h).1 ((des_down h).2.imp (fun hab => by have := hab.1; intro e; omega))
end Go.Proofs.Yteceahbnafaeoaa
