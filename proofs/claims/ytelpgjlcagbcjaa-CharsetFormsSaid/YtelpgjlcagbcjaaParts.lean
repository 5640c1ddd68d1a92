/- The walk of the statement CharsetClusters. -/
import Derived.Test.YtelpgjlcagbcjaaShapes
namespace Go.Proofs.Ytelpgjlcagbcjaa
set_option linter.unusedSimpArgs false
set_option linter.unusedVariables false
open Go.RowKit

/-! ### lists of strings that the call owns -/
theorem own_form {w : World} {b : Nat} {e : TypeId} {v : Value} {n : Nat} {xs : List Value} (h : w.ownsRow b e 1 v n xs) : ∃ a cap, v = .slice a n cap := by
  rcases h.2 with ⟨rfl, hn⟩ | ⟨g, cap, cur, rfl, _⟩
  · exact ⟨none, 0, by rw [hn]⟩
  · exact ⟨_, cap, rfl⟩
theorem own_cells {w : World} {b : Nat} {a : Option Addr} {n cap : Nat} {xs : List ByteArray} (h : w.ownsRow b 9 1 (.slice a n cap) n (xs.map Value.string)) (hn : 0 < n) :
    ∃ g, a = some ⟨g, 0, none⟩ ∧ g < w.heap.size ∧ xs.length = n ∧ n ≤ cap ∧ cap ≤ maxLen ∧ ∀ (j : Nat) x, xs[j]? = some x → w.cell? ⟨g, j, none⟩ = some (.string x) := by
  have hl : xs.length = n := by have := h.1; simpa using this
  have hc := fun g hg => h.cells (g := g) hg
  have hlt := h.lt
  rcases h.2 with ⟨_, h0⟩ | ⟨g, cap', cur, hv, _, _, hnc, hcm, _⟩
  · omega
  · simp only [Value.slice.injEq, true_and] at hv
    obtain ⟨rfl, rfl⟩ := hv
    refine ⟨g, rfl, (hlt g rfl).2, hl, hnc, hcm, fun j x hx => ?_⟩
    have := hc g rfl j (.string x) (by rw [List.getElem?_map, hx]; rfl)
    rwa [show (⟨g, 0, none⟩ : Addr).add j = ⟨g, j, none⟩ by unfold Addr.add; split <;> simp_all] at this

theorem join_flat : ∀ xs : List (List UInt8), Lib.join xs [] = xs.flatten := by
  intro xs
  rw [Lib.join]
  induction xs with
  | nil => rfl
  | cons x t ih =>
    cases t with
    | nil => simp [List.intercalate, List.intersperse]
    | cons y r =>
      rw [List.intercalate_cons_cons, ih]; simp

theorem join_own {w : World} {b : Nat} {a : Option Addr} {n cap : Nat} {xs : List ByteArray} (h : w.ownsRow b 9 1 (.slice a n cap) n (xs.map Value.string)) (l : List UInt8) (hl : (xs.map (·.data.toList)).flatten = l) (hs : l.length ≤ 140737488355328) (hn : n ≤ 140737488355328) :
    Calls Try.prog 32 #[.slice a n cap, .string ⟨#[]⟩] w fun e w' => e = .returned (.string ⟨l.toArray⟩) ∧ Below w.heap.size w w' := by
  by_cases h0 : 0 < n
  · obtain ⟨g, rfl, hg, hx, hnc, hcm, hc⟩ := own_cells h h0
    subst hx
    have hj : Lib.join (xs.map (·.data.toList)) [] = l := by rw [join_flat, hl]
    have := Try.strings_Join g 0 cap xs ⟨#[]⟩ w (fun j x hx => by rw [Nat.zero_add]; exact hc j x hx) hg hn hnc (by rw [show (⟨#[]⟩ : ByteArray).data.toList = [] from rfl, hj]; exact hs)
    rw [show (⟨#[]⟩ : ByteArray).data.toList = [] from rfl, hj] at this
    exact this
  · obtain rfl : n = 0 := by omega
    have hx : xs = [] := List.length_eq_zero_iff.1 (by have := h.1; simpa using this)
    subst hx
    have : l = [] := by rw [← hl]; rfl
    subst this
    exact (Try.strings_Join_none a cap ⟨#[]⟩ w).mono fun e w' h => ⟨h.1, by rw [h.2]; exact Below.refl _ _⟩

theorem join_str {w : World} {b : Nat} {a : Option Addr} {n cap : Nat} {xs : List ByteArray} (h : w.ownsRow b 9 1 (.slice a n cap) n (xs.map Value.string)) (t : ByteArray) (hl : (xs.map (·.data.toList)).flatten = t.data.toList) (hs : t.size ≤ 140737488355328) (hn : n ≤ 140737488355328) :
    Calls Try.prog 32 #[.slice a n cap, .string ⟨#[]⟩] w fun e w' => e = .returned (.string t) ∧ Below w.heap.size w w' := by
  have := join_own h t.data.toList hl (by rw [size_list]; exact hs) hn
  rwa [show (⟨t.data.toList.toArray⟩ : ByteArray) = t by simp] at this

theorem contains_own {w : World} {b : Nat} {a : Option Addr} {n cap : Nat} {xs : List ByteArray} (h : w.ownsRow b 9 1 (.slice a n cap) n (xs.map Value.string)) (x : ByteArray) (hr : x ∉ xs) :
    Calls Try.prog 33 #[.slice a n cap, .string x] w fun e w' => e = .returned (.bool false) ∧ w = w' := by
  by_cases h0 : 0 < n
  · obtain ⟨g, rfl, hg, hx, hnc, hcm, hc⟩ := own_cells h h0
    subst hx
    unfold maxLen at hcm
    refine (Try.slices_Contains_string g 0 xs.length cap xs x w (Nat.le_refl _) (by omega) (fun j hj => by rw [Nat.zero_add]; exact hc j _ (by simp [hj]))).mono fun e w' h => ⟨?_, h.2.symm⟩
    have hf : Lib.containsS xs x = false := by
      rw [← Bool.not_eq_true, Lib.containsS_iff]; exact hr
    rw [h.1, List.take_length, hf]
  · obtain rfl : n = 0 := by omega
    have hx : xs = [] := List.length_eq_zero_iff.1 (by have := h.1; simpa using this)
    subst hx
    exact (Try.slices_Contains_string_empty a cap x w).mono fun e w' h => ⟨h.1, h.2.symm⟩

/-! ### clusters -/
theorem clus_flat : ∀ (n : Nat) (l : List UInt8), l.length ≤ n → (clus l).flatten = l
  | 0, l, h => by
    have : l = [] := List.length_eq_zero_iff.1 (by omega)
    subst this; rfl
  | n + 1, l, h => by
    by_cases hl : l = []
    · subst hl; rfl
    · have hp := fcl_pos hl
      rw [clus_step hl, List.flatten_cons, clus_flat n _ (by rw [List.length_drop]; omega), List.take_append_drop]
theorem clus_ne : ∀ (n : Nat) (l : List UInt8), l.length ≤ n → [] ∉ clus l
  | 0, l, h => by
    have : l = [] := List.length_eq_zero_iff.1 (by omega)
    subst this; simp [clus_nil]
  | n + 1, l, h => by
    by_cases hl : l = []
    · subst hl; simp [clus_nil]
    · have hp := fcl_pos hl
      have hle := fcl_le l
      rw [clus_step hl, List.mem_cons]
      rintro (e | e)
      · have := congrArg List.length e
        rw [List.length_take] at this
        simp only [List.length_nil] at this
        omega
      · exact clus_ne n _ (by rw [List.length_drop]; omega) e
theorem clus_le : ∀ (n : Nat) (l : List UInt8), l.length ≤ n → (clus l).length ≤ l.length
  | 0, l, h => by
    have : l = [] := List.length_eq_zero_iff.1 (by omega)
    subst this; exact Nat.le_refl _
  | n + 1, l, h => by
    by_cases hl : l = []
    · subst hl; exact Nat.le_refl _
    · have hp := fcl_pos hl
      have hle := fcl_le l
      have ih := clus_le n (l.drop (fcl l)) (by rw [List.length_drop]; omega)
      rw [List.length_drop] at ih
      rw [clus_step hl, List.length_cons]; omega
theorem acc_step {l : List UInt8} (hl : l ≠ []) (h : accB l = true) : (plainL (l.take (fcl l))).length = 1 ∧ accB (l.drop (fcl l)) = true := by
  rw [accB_pairs, pairs_step hl, List.any_append, Bool.not_or, Bool.and_eq_true] at h
  refine ⟨?_, by rw [accB_pairs]; exact h.2⟩
  match l, hl, h with
  | c :: t, _, h =>
    by_cases h1 : kd c = 1
    · have e : (c :: t).take (fcl (c :: t)) = c :: t.take (run2 t) := by simp [fcl, h1]
      rw [e, plainL, List.filter_cons, if_pos (by simp [h1])]
      have : (t.take (run2 t)).filter (fun c => !decide (kd c = 2)) = [] := by
        rw [List.filter_eq_nil_iff]
        intro x hx
        simp [run2_take t x hx]
      rw [this]; rfl
    · have e : (c :: t).take (fcl (c :: t)) = [c] := by simp [fcl, h1]
      rw [e] at h ⊢
      have h2 : ¬ kd c = 2 := by
        intro h2
        have := h.1
        simp [pairsOf, badP, badB, pflag, h2] at this
      simp [plainL, List.filter_cons, h2]
theorem acc_clus : ∀ (n : Nat) (l : List UInt8), l.length ≤ n → accB l = true → (∀ c ∈ clus l, (plainL c).length = 1) ∧ (plainL l).length = (clus l).length
  | 0, l, h, _ => by
    have : l = [] := List.length_eq_zero_iff.1 (by omega)
    subst this; exact ⟨by simp [clus_nil], rfl⟩
  | n + 1, l, h, ha => by
    by_cases hl : l = []
    · subst hl; exact ⟨by simp [clus_nil], rfl⟩
    · have hp := fcl_pos hl
      obtain ⟨h1, h2⟩ := acc_step hl ha
      obtain ⟨i1, i2⟩ := acc_clus n _ (by rw [List.length_drop]; omega) h2
      rw [clus_step hl]
      refine ⟨?_, ?_⟩
      · intro c hc
        rcases List.mem_cons.1 hc with rfl | hc
        · exact h1
        · exact i1 c hc
      · have e : plainL l = plainL (l.take (fcl l)) ++ plainL (l.drop (fcl l)) := by
          rw [plainL, plainL, plainL, ← List.filter_append, List.take_append_drop]
        rw [e, List.length_append, h1, i2, List.length_cons]; omega

/-! ### slices.ContainsFunc over clusters of an accepted string -/
set_option maxHeartbeats 400000 in
theorem partF_any (c : ByteArray) (h : (plainL c.data.toList).length = 1) (hs : c.size ≤ 140737488351232) (w : World) :
    Calls Try.prog 35 #[.string c] w fun e w' => e = .returned (.bool false) ∧ Below w.heap.size w w' := by
  obtain ⟨p, hp⟩ : ∃ p : ByteArray, p = ⟨(plainL c.data.toList).toArray⟩ := ⟨_, rfl⟩
  have hz : p.size = 1 := by rw [hp]; exact h
  have hz' : ((p.size : Int) != 1) = false := by rw [hz]; rfl
  have HP := Lib.hid hp
  clear hp hz
  go_enter Try.func35, Try.ntmps35
  go_wp2_with fail
  refine (plain_at c p HP.out hs _).mono ?_
  rintro e w1 ⟨rfl, h1⟩
  go_wp2
  go_ret
  exact ⟨rfl, h1⟩

set_option maxHeartbeats 1000000 in
theorem indexP_any {b : Nat} {a : Option Addr} {n cap : Nat} (xs : List ByteArray) (hxs : ∀ c ∈ xs, (plainL c.data.toList).length = 1 ∧ c.size ≤ 140737488351232) (w : World) (h : w.ownsRow b 9 1 (.slice a n cap) n (xs.map Value.string)) (hn : n ≤ 140737488351232) :
    Calls Try.prog 51 #[.slice a n cap, .func (.func 35) #[] #[]] w fun e w' => e = .returned (.int .i64 (-1)) ∧ Below w.heap.size w w' := by
  have hl : xs.length = n := by have := h.1; simpa using this
  have hc0 : 0 < n → ∃ g, a = some ⟨g, 0, none⟩ ∧ g < w.heap.size ∧ ∀ (j : Nat) x, xs[j]? = some x → w.cell? ⟨g, j, none⟩ = some (.string x) := fun h0 => by
    obtain ⟨g, ha, hg, _, _, _, hc⟩ := own_cells h h0
    exact ⟨g, ha, hg, hc⟩
  have HC := Lib.hid hc0
  have HXS := Lib.hid hxs
  have HL := Lib.hid hl
  clear hc0 h hxs hl
  go_enter Try.func51, Try.ntmps51
  go_wp2
  go_loopw [8] (fun i wr => (∃ k : Nat, k ≤ n ∧ i = .int .i64 k) ∧ Below w.heap.size w wr) (fun i _ => n - (intOf i).toNat)
  case atStart => exact ⟨⟨0, Nat.zero_le _, rfl⟩, Below.refl _ _⟩
  case round =>
    obtain ⟨⟨k, hk, rfl⟩, hB⟩ := hrel
    by_cases hlt : k < n
    · obtain ⟨g, rfl, hg, hc⟩ := HC.out (by omega)
      have hkx : k < xs.length := by rw [HL.out]; exact hlt
      obtain ⟨c, hcx⟩ : ∃ c, xs[k] = c := ⟨_, rfl⟩
      have hcell : wr.cell? ⟨g, k, none⟩ = some (.string c) := by
        rw [hB.cell (p := ⟨g, k, none⟩) hg, hc k c (by rw [List.getElem?_eq_getElem hkx, hcx])]
      have hcm := HXS.out c (by rw [← hcx]; exact List.getElem_mem hkx)
      have HM := Lib.hid hcm.1
      have HM2 := hcm.2
      clear hc hcx hcm
      go_wp2_with fail
      refine (partF_any c HM.out HM2 _).mono ?_
      rintro e w1 ⟨rfl, h1⟩
      go_wp2
      go_roundw
      case rel => exact ⟨⟨k + 1, by omega, by go_num⟩, below_seq hB h1 (Nat.le_refl _)⟩
      case measure => simp [intOf]; omega
    · go_wp2
      go_ret
      exact ⟨rfl, hB⟩

set_option maxHeartbeats 400000 in
theorem containsP_any {b : Nat} {a : Option Addr} {n cap : Nat} (xs : List ByteArray) (hxs : ∀ c ∈ xs, (plainL c.data.toList).length = 1 ∧ c.size ≤ 140737488351232) (w : World) (h : w.ownsRow b 9 1 (.slice a n cap) n (xs.map Value.string)) (hn : n ≤ 140737488351232) :
    Calls Try.prog 34 #[.slice a n cap, .func (.func 35) #[] #[]] w fun e w' => e = .returned (.bool false) ∧ Below w.heap.size w w' := by
  have HX := Lib.hid hxs
  have H := Lib.hid h
  clear h hxs
  go_enter Try.func34, Try.ntmps34
  go_wp2_with fail
  refine (indexP_any xs HX.out _ H.out hn).mono ?_
  rintro e w1 ⟨rfl, h1⟩
  go_wp2
  go_ret
  exact ⟨rfl, h1⟩

theorem own_below' {w w' : World} {b : Nat} {v : Value} {n : Nat} {xs : List Value} {e : TypeId} (h : w.ownsRow b e 1 v n xs) (hb : Below w.heap.size w w') : w'.ownsRow b e 1 v n xs := by
  refine ⟨h.1, ?_⟩
  rcases h.2 with hn | ⟨g, cap, cur, rfl, hbg, hg, rest⟩
  · exact .inl hn
  · exact .inr ⟨g, cap, cur, rfl, hbg, (hb.block g (Array.getElem?_eq_some_iff.1 hg).1).trans hg, rest⟩

theorem flat_le {α : Type} {x : List α} : ∀ {l : List (List α)}, x ∈ l → x.length ≤ l.flatten.length
  | y :: t, h => by
    rw [List.flatten_cons, List.length_append]
    rcases List.mem_cons.1 h with rfl | h
    · omega
    · have := flat_le h; omega

set_option maxHeartbeats 1000000 in
theorem parts_small (s : ByteArray) (hs : s.size ≤ 80) (w : World) :
    Calls Try.prog 7 #[.string s] w fun e w' => e = .returned (.bool true) ∧ Below w.heap.size w w' := by
  obtain ⟨xs, hxs⟩ : ∃ xs : List ByteArray, (clus s.data.toList).map (fun c => (⟨c.toArray⟩ : ByteArray)) = xs := ⟨_, rfl⟩
  have hlist : xs.map (·.data.toList) = clus s.data.toList := by
    rw [← hxs, List.map_map]; exact List.map_id _
  have hflat : (xs.map (·.data.toList)).flatten = s.data.toList := by rw [hlist, clus_flat _ _ (Nat.le_refl _)]
  have hempty : (⟨#[]⟩ : ByteArray) ∉ xs := by
    intro hm
    apply clus_ne _ s.data.toList (Nat.le_refl _)
    rw [← hlist]
    exact List.mem_map_of_mem (f := fun x : ByteArray => x.data.toList) hm
  have hlen : xs.length ≤ 80 := by
    have := clus_le _ s.data.toList (Nat.le_refl _)
    rw [← hlist, List.length_map, size_list] at this
    omega
  have hsz : ∀ c ∈ xs, c.size ≤ 140737488351232 := by
    intro c hc
    have hm : c.data.toList ∈ xs.map (·.data.toList) := List.mem_map_of_mem (f := fun x : ByteArray => x.data.toList) hc
    have := flat_le hm
    rw [hflat, size_list, size_list] at this
    omega
  obtain ⟨r, hr⟩ : ∃ r, chk s.data.toList = r := ⟨_, rfl⟩
  have hacc : r = 0 → (∀ c ∈ xs, (plainL c.data.toList).length = 1 ∧ c.size ≤ 140737488351232) ∧ (plainL s.data.toList).length = xs.length := by
    intro e
    obtain ⟨_, ha⟩ := chk_zero (l := s.data.toList) (by rw [hr]; exact e)
    obtain ⟨h1, h2⟩ := acc_clus _ s.data.toList (Nat.le_refl _) ha
    refine ⟨fun c hc => ⟨h1 _ ?_, hsz c hc⟩, by rw [h2, ← hlist, List.length_map]⟩
    rw [← hlist]
    exact List.mem_map_of_mem (f := fun x : ByteArray => x.data.toList) hc
  obtain ⟨p, hp⟩ : ∃ p : ByteArray, p = ⟨(plainL s.data.toList).toArray⟩ := ⟨_, rfl⟩
  have hps : p.size = (plainL s.data.toList).length := by rw [hp]; rfl
  have HX := Lib.hid hxs
  have HF := Lib.hid hflat
  have HE := Lib.hid hempty
  have HR := Lib.hid hr
  have HA := Lib.hid hacc
  have HP := Lib.hid hp
  have HPS := Lib.hid hps
  clear hxs hflat hempty hr hacc hlist hsz hp hps
  go_enter Try.func7, Try.ntmps7
  go_wp2_with fail
  refine (clusters_at s xs HX.out (by omega) _).mono ?_
  rintro e w1 ⟨v, rfl, ho, B1⟩
  obtain ⟨a, cap, rfl⟩ := own_form ho
  have HO := Lib.hid ho
  clear ho
  go_wp2_with fail
  refine (join_str HO.out s HF.out (by omega) (by omega)).mono ?_
  rintro e w2 ⟨rfl, h2⟩
  have HO2 := Lib.hid (own_below' HO.out h2)
  have B2 := below_seq B1 h2 (Nat.le_refl _)
  clear h2 B1
  go_wp2_with fail
  refine (contains_own HO2.out ⟨#[]⟩ HE.out).mono ?_
  rintro e w3 ⟨rfl, rfl⟩
  go_wp2_with fail
  refine (check_at s r HR.out (by unfold maxLen; omega) _).mono ?_
  rintro e w4 ⟨rfl, h4⟩
  have HO4 := Lib.hid (own_below' HO2.out h4)
  have B4 := below_seq B2 h4 (Nat.le_refl _)
  clear h4 B2
  by_cases h0 : r = 0
  · have h0' : (r != 0) = false := by simp [h0]
    obtain ⟨ha1, ha2⟩ := HA.out h0
    have HA1 := Lib.hid ha1
    have hpl : (xs.length : Int) = (p.size : Int) := by rw [HPS.out, ha2]
    have hpl' : ((xs.length : Int) == (p.size : Int)) = true := by rw [hpl]; simp
    clear h0 ha1 ha2 hpl
    go_wp2_with fail
    refine (containsP_any xs HA1.out _ HO4.out (by omega)).mono ?_
    rintro e w5 ⟨rfl, h5⟩
    go_wp2_with fail
    refine (plain_at s p HP.out (by omega) _).mono ?_
    rintro e w6 ⟨rfl, h6⟩
    have B6 := below_seq (below_seq B4 h5 (Nat.le_refl _)) h6 (Nat.le_refl _)
    clear h5 h6 B4
    go_wp2_with fail
    refine (awake_any _).mono ?_
    rintro e w7 ⟨rfl, h7⟩
    go_wp2
    go_ret
    exact ⟨rfl, below_seq B6 h7 (Nat.le_refl _)⟩
  · have h0' : (r != 0) = true := by simp [h0]
    clear h0
    go_wp2_with fail
    refine (awake_any _).mono ?_
    rintro e w7 ⟨rfl, h7⟩
    go_wp2
    go_ret
    exact ⟨rfl, below_seq B4 h7 (Nat.le_refl _)⟩

set_option maxHeartbeats 400000 in
theorem parts_any (s : ByteArray) (_hs : s.size ≤ maxLen) (w : World) :
    Calls Try.prog 7 #[.string s] w fun e w' => e = .returned (.bool true) ∧ Below w.heap.size w w' := by
  by_cases h : s.size ≤ 80
  · exact parts_small s h w
  · go_enter Try.func7, Try.ntmps7
    go_wp2_with fail
    refine (awake_any _).mono ?_
    rintro e w2 ⟨rfl, h2⟩
    go_wp2
    go_ret
    exact ⟨rfl, h2⟩
end Go.Proofs.Ytelpgjlcagbcjaa
