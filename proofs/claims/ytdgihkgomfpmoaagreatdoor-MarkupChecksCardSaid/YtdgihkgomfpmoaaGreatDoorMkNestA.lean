/- For MarkupNested: lists that at makes, the places of tags, a lexeme that is put. -/
import Derived.Test.YtdgihkgomfpmoaaGreatDoorMkLossless
namespace Go.Proofs.YtdgihkgomfpmoaaGreatDoor
set_option linter.unusedSimpArgs false
set_option linter.unusedVariables false
set_option maxRecDepth 100000
open Go.RowKit Go.Deep

/-- a lexeme that is not great -/
def SmX (x : Lx) : Prop := I64 x.k ∧ x.n.length + x.v.length ≤ 65536
theorem sm_len {x : Lx} (h : SmX x) : lenX x ≤ 65540 := by
  have := h.2
  unfold lenX
  split
  · omega
  · split <;> split <;> omega
theorem reAt_mem : ∀ (L : List Lx) (o m : Nat), (∀ x ∈ L, SmX x) → (∀ x ∈ L, lenX x ≤ m) → ∀ x ∈ reAt o L, SmX x ∧ ((o : Int) ≤ x.o) ∧ x.o ≤ ((o + m * L.length : Nat) : Int)
  | [], _, _, _, _, x, hx => by cases hx
  | y :: L, o, m, h, hm, x, hx => by
    rw [reAt] at hx
    have h2 := hm y (by simp)
    rcases List.mem_cons.1 hx with rfl | hx
    · refine ⟨h y (by simp), Int.le_refl _, ?_⟩
      show (o : Int) ≤ _
      have : o ≤ o + m * (y :: L).length := Nat.le_add_right _ _
      exact Int.ofNat_le.2 this
    · obtain ⟨h3, h4, h5⟩ := reAt_mem L _ m (fun z hz => h z (by simp [hz])) (fun z hz => hm z (by simp [hz])) x hx
      refine ⟨h3, by omega, ?_⟩
      rw [List.length_cons, Nat.mul_add]
      omega
theorem reAt_b {L : List Lx} (h : ∀ x ∈ L, SmX x) (hl : L.length ≤ 1000) : LxB (reAt 0 L) := by
  refine ⟨by rw [reAt_len]; exact hl, fun x hx => ?_⟩
  obtain ⟨h1, h2, h3⟩ := reAt_mem L 0 65540 h (fun x hx => sm_len (h x hx)) x hx
  have h4 : 65540 * L.length ≤ 65540 * 1000 := Nat.mul_le_mul_left _ hl
  have h5 := h1.2
  unfold I64 maxLen
  exact ⟨h1.1, by omega, by omega, by omega, h5⟩
theorem chk_sm {L : List Lx} (h : chkR L = 0) : ∀ x ∈ L, SmX x := by
  obtain ⟨h1, h2⟩ := chk_len h
  intro x hx
  obtain ⟨h3, h4, _⟩ := val_mem L _ _ h2 x hx
  exact ⟨by unfold I64; omega, by omega⟩
theorem nest_of {L : List Lx} (h : nestR L = 0) : chkR L = 0 ∧ nestF [] L = 0 := by
  unfold nestR at h
  split at h
  · exact ⟨by assumption, h⟩
  · cases h
theorem nest_at {L : List Lx} (hc : chkR (reAt 0 L) = 0) : nestR (reAt 0 L) = nestF [] L := by
  unfold nestR
  rw [if_pos hc, nest_reAt]
/- the places of opening and closing tags -/
def ocB (L : List Lx) (j : Nat) : Bool := decide ((L.getD j lbX).k = 2) || decide ((L.getD j lbX).k = 3)
def tagsN (L : List Lx) (k : Nat) : List Int := ((List.range k).filter (ocB L)).map fun (j : Nat) => (j : Int)
theorem tagsN_zero (L : List Lx) : tagsN L 0 = [] := rfl
theorem oc_at {L : List Lx} {k : Nat} (h : k < L.length) : ocB L k = (decide (L[k].k = 2) || decide (L[k].k = 3)) := by
  unfold ocB
  rw [List.getD_eq_getElem?_getD, List.getElem?_eq_getElem h]; rfl
theorem tagsN_yes {L : List Lx} {k : Nat} (h : k < L.length) (hk : L[k].k = 2 ∨ L[k].k = 3) : tagsN L (k + 1) = tagsN L k ++ [(k : Int)] := by
  unfold tagsN
  rw [List.range_succ, List.filter_append, List.map_append]
  have : ocB L k = true := by rw [oc_at h]; simpa using hk
  simp [this]
theorem tagsN_no {L : List Lx} {k : Nat} (h : k < L.length) (hk : ¬ (L[k].k = 2 ∨ L[k].k = 3)) : tagsN L (k + 1) = tagsN L k := by
  unfold tagsN
  rw [List.range_succ, List.filter_append, List.map_append]
  have : ocB L k = false := by rw [oc_at h]; simpa using hk
  simp [this]
theorem tagsN_len (L : List Lx) (k : Nat) : (tagsN L k).length ≤ k := by
  unfold tagsN
  rw [List.length_map]
  exact Nat.le_trans (List.length_filter_le _ _) (by simp)
theorem tagsN_mem {L : List Lx} {r : Nat} (h : r < (tagsN L L.length).length) : ∃ j : Nat, (tagsN L L.length)[r] = (j : Int) ∧ ∃ hj : j < L.length, L[j].k = 2 ∨ L[j].k = 3 := by
  have hm := List.getElem_mem h
  unfold tagsN at hm
  obtain ⟨j, hj, he⟩ := List.mem_map.1 hm
  obtain ⟨h1, h2⟩ := List.mem_filter.1 hj
  have hjl : j < L.length := List.mem_range.1 h1
  rw [oc_at hjl] at h2
  exact ⟨j, he.symm, hjl, by simpa using h2⟩
theorem most_step {L : List Lx} {k : Nat} (h : k < L.length) (d m : Int) : mostI d m (L.drop k) = mostI (stepD d L[k]) (max m (stepD d L[k])) (L.drop (k + 1)) := by
  rw [List.drop_eq_getElem_cons h, mostI]
theorem most_if (a b : Int) : (if a > b then a else b) = max b a := by
  split <;> omega
/- a lexeme is put into a list -/
theorem flatX_put : ∀ (L : List Lx) (i : Nat) (h : i < L.length) (x : Lx), ((((L.flatMap cellsX).set (i * 4) (intV x.k)).set (i * 4 + 1) (sV x.n)).set (i * 4 + 2) (sV x.v)).set (i * 4 + 3) (intV x.o) = (L.set i x).flatMap cellsX
  | [], i, h, _ => absurd h (by simp)
  | y :: L, 0, _, x => by simp [List.flatMap_cons, cellsX]
  | y :: L, i + 1, h, x => by
    have := flatX_put L i (by simpa using h) x
    have e : (i + 1) * 4 = i * 4 + (cellsX y).length := by simp [cellsX]; omega
    rw [List.flatMap_cons, e, show i * 4 + (cellsX y).length + 1 = (i * 4 + 1) + (cellsX y).length by omega, show i * 4 + (cellsX y).length + 2 = (i * 4 + 2) + (cellsX y).length by omega, show i * 4 + (cellsX y).length + 3 = (i * 4 + 3) + (cellsX y).length by omega]
    rw [List.set_append_right _ _ (by omega), Nat.add_sub_cancel, List.set_append_right _ _ (by omega), Nat.add_sub_cancel, List.set_append_right _ _ (by omega), Nat.add_sub_cancel, List.set_append_right _ _ (by omega), Nat.add_sub_cancel, this, List.set_cons_succ, List.flatMap_cons]
theorem OwnX.put {B : Nat} {W : World} {g n cap : Nat} {L : List Lx} (h : OwnX B W (.slice (some ⟨g, 0, none⟩) n cap) L) {i : Nat} (hi : i < L.length) (x : Lx) :
    OwnX B ((((W.setCell ⟨g, i * 4, none⟩ (intV x.k)).setCell ⟨g, i * 4 + 1, none⟩ (sV x.n)).setCell ⟨g, i * 4 + 2, none⟩ (sV x.v)).setCell ⟨g, i * 4 + 3, none⟩ (intV x.o)) (.slice (some ⟨g, 0, none⟩) n cap) (L.set i x) ∧
      Below B W ((((W.setCell ⟨g, i * 4, none⟩ (intV x.k)).setCell ⟨g, i * 4 + 1, none⟩ (sV x.n)).setCell ⟨g, i * 4 + 2, none⟩ (sV x.v)).setCell ⟨g, i * 4 + 3, none⟩ (intV x.o)) := by
  obtain ⟨g', cap', e, hB, hg⟩ := h.form (by omega)
  cases e
  have h1 := (World.ownsRow.stored h (i * 4) (intV x.k)).1
  have h2 := (World.ownsRow.stored h1 (i * 4 + 1) (sV x.n)).1
  have h3 := (World.ownsRow.stored h2 (i * 4 + 2) (sV x.v)).1
  have h4 := (World.ownsRow.stored h3 (i * 4 + 3) (intV x.o)).1
  rw [flatX_put L i hi] at h4
  refine ⟨?_, ((((Below.refl _ _).setCell hB _).setCell hB _).setCell hB _).setCell hB _⟩
  unfold OwnX
  rw [List.length_set]
  exact h4
theorem one_news (W : World) (x : Value) (t : TypeId) (n : Nat) (h : n = W.heap.size) : ∀ j u, [x][j]? = some u → (W.alloc (.cells #[x] t)).cell? ((⟨n, 0, none⟩ : Addr).add j) = some u := by
  intro j u hj
  subst h
  match j, hj with
  | 0, hj => simp at hj; subst hj; simp [Addr.add]
theorem info_int : (Tryz.prog.info? 3).map (fun i => (i.zero, i.size, i.bytes)) = some (some (.int .i64 0), 1, 8) := by kernel_rfl
theorem rem_i64 {s n : Int} (h0 : 0 ≤ s) (h1 : s < 256) (hn : 1 ≤ n) : Int.tmod s n = s % n ∧ 0 ≤ s % n ∧ s % n < n ∧ s % n < 256 := by
  have h2 : 0 ≤ s % n := Int.emod_nonneg _ (by omega)
  have h3 := Int.emod_lt_of_pos s (show 0 < n by omega)
  refine ⟨Int.tmod_eq_emod_of_nonneg h0, h2, h3, ?_⟩
  by_cases h : s < n
  · rw [Int.emod_eq_of_lt h0 h]; exact h1
  · omega
def unO : Lx := ⟨2, tUn, [], 0⟩
def unC : Lx := ⟨3, tUn, [], 0⟩
theorem in_iff {l : List Lx} (h : nestF [] l = 0) (hc : chkR (reAt 0 ([unO] ++ l ++ [unC])) = 0) : (nestR (reAt 0 ([unO] ++ l ++ [unC])) == 0) = decide (mostI 0 0 l < 16) := by
  rw [nest_at hc]
  have := nest_in (x := unO) (y := unC) rfl rfl rfl h
  rw [Bool.eq_iff_iff, beq_iff_eq, decide_eq_true_eq]
  exact this
end Go.Proofs.YtdgihkgomfpmoaaGreatDoor
