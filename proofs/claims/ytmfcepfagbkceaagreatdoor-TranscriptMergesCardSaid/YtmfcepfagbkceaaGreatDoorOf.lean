/- Stage 10 (transcript): MkPR MkPI MkPS, put together by merge10.py. -/
import Derived.Test.YtmfcepfagbkceaaGreatDoorOe
import Derived.Deep.Slices
namespace Go.Proofs.YtmfcepfagbkceaaGreatDoor
set_option linter.unusedSimpArgs false
set_option linter.unusedVariables false
set_option maxRecDepth 100000
open Go.RowKit Go.Deep
set_option maxHeartbeats 1000000 in
theorem firstPart_any (s t : Bs) (h : partOf s = t) (hs : s.length ≤ 65536) (w : World) :
    Calls Tryz.prog 90 #[sV s] w fun e w' => e = .returned (sV t) ∧ Below w.heap.size w w' := by
  have hsz : (baL s).size = s.length := baL_size s
  unfold partOf at h
  by_cases h6 : s.head? = some 60
  · rw [if_pos h6] at h
    have hp : ([60] : Bs).isPrefixOf s = true := by
      cases s with
      | nil => cases h6
      | cons c l =>
        have : c = 60 := by simpa using h6
        subst this; rfl
    have HP := Lib.hid (fun W => prefix_any s [60] true hp W)
    have hi := idx_tw 62 s
    have e62 : (fun x : UInt8 => decide (x ≠ 62)) = not62 := rfl
    rw [e62] at hi
    by_cases hd : s.dropWhile not62 = []
    · rw [if_pos hd] at hi h
      have HI := Lib.hid (fun W => index_one s 62 (-1) hi W)
      subst h
      clear hi hd hp h6
      go_enter Tryz.func90, Tryz.ntmps90
      go_wp2_with fail
      refine (HP.out _).mono ?_
      rintro e w1 ⟨rfl, rfl⟩
      go_wp2_with fail
      refine (HI.out _).mono ?_
      rintro e w1 ⟨rfl, rfl⟩
      go_wp2
      go_ret
      exact ⟨rfl, Below.refl _ _⟩
    · rw [if_neg hd] at hi h
      have HI := Lib.hid (fun W => index_one s 62 _ hi W)
      have hlt : (s.takeWhile not62).length < s.length := by
        have := List.takeWhile_append_dropWhile (p := not62) (l := s)
        have h2 := congrArg List.length this
        rw [List.length_append] at h2
        have h3 := List.length_pos_iff.2 hd
        omega
      have hcut : (baL s).extract 0 ((s.takeWhile not62).length + 1) = baL t := by
        rw [baL_cut, List.drop_zero, Nat.sub_zero]
        congr 1
        have e1 := List.takeWhile_append_dropWhile (p := not62) (l := s)
        obtain ⟨c, r, hr⟩ : ∃ c r, s.dropWhile not62 = c :: r := by
          cases hh : s.dropWhile not62 with
          | nil => exact absurd hh hd
          | cons c r => exact ⟨c, r, rfl⟩
        have hc := dw_head s hr
        have hc : c = 62 := by unfold not62 at hc; simpa using hc
        rw [hr, hc] at e1
        have e2 : s = (s.takeWhile not62 ++ [62]) ++ r := by rw [List.append_assoc]; exact e1.symm
        rw [← h]
        have e3 : (s.takeWhile not62).length + 1 = (s.takeWhile not62 ++ [62]).length := by simp
        rw [e3]
        conv => lhs; arg 2; rw [e2]
        exact List.take_left
      have HC := Lib.hid hcut
      obtain ⟨n, hn⟩ : ∃ n, (s.takeWhile not62).length = n := ⟨_, rfl⟩
      rw [hn] at hlt HI HC
      have g0 : decide ((n : Int) < 0) = false := decide_eq_false (by omega)
      obtain ⟨m, hm⟩ : ∃ m, n + 1 = m := ⟨_, rfl⟩
      have hwk : IntKind.i64.wrap ((n : Int) + 1) = (m : Int) := by rw [show (n : Int) + 1 = ((n + 1 : Nat) : Int) by omega, ← hm]; exact IntWalk.i64_in _ (by omega)
      have g1 : (0 : Int) ≤ (m : Int) := by omega
      have g2 : (m : Int) ≤ (s.length : Int) := by omega
      rw [hm] at HC
      clear hi hd hp h6 h hcut hn hm
      go_enter Tryz.func90, Tryz.ntmps90
      go_wp2_with fail
      refine (HP.out _).mono ?_
      rintro e w1 ⟨rfl, rfl⟩
      go_wp2_with fail
      refine (HI.out _).mono ?_
      rintro e w1 ⟨rfl, rfl⟩
      go_wp2
      go_ret
      exact ⟨by rw [show sV t = .string (baL t) from rfl, ← HC.out]; rfl, Below.refl _ _⟩
  · rw [if_neg h6] at h
    have hp : ([60] : Bs).isPrefixOf s = false := by
      cases s with
      | nil => rfl
      | cons c l =>
        have : c ≠ 60 := by simpa using h6
        simp [List.isPrefixOf]; exact fun e => this e.symm
    have HP := Lib.hid (fun W => prefix_any s [60] false hp W)
    have e60 : (fun x : UInt8 => decide (x ≠ 60)) = not60 := rfl
    have HC := Lib.hid (fun W => cut_any s 60 (by unfold maxLen; omega) t (by rw [e60]; exact h) W)
    clear h hp h6
    go_enter Tryz.func90, Tryz.ntmps90
    go_wp2_with fail
    refine (HP.out _).mono ?_
    rintro e w1 ⟨rfl, rfl⟩
    go_wp2_with fail
    refine (HC.out _).mono ?_
    rintro e w2 ⟨⟨r, f, rfl⟩, h2⟩
    go_wp2
    go_ret
    exact ⟨rfl, h2⟩
def ktR (p : Bs) : Int := if ([60, 47] : Bs).isPrefixOf p then 3 else if ([47, 62] : Bs).isSuffixOf p then 4 else 2
set_option maxHeartbeats 400000 in
theorem kindOf_any (p : Bs) (k : Int) (hk : ktR p = k) (hp : p.length ≤ 65536) (w : World) :
    Calls Tryz.prog 132 #[sV p] w fun e w' => e = .returned (intV k) ∧ w' = w := by
  unfold ktR at hk
  cases h1 : ([60, 47] : Bs).isPrefixOf p
  · rw [h1] at hk
    have H1 := Lib.hid (fun W => prefix_any p [60, 47] false h1 W)
    cases h2 : ([47, 62] : Bs).isSuffixOf p
    · rw [h2] at hk
      have H2 := Lib.hid (fun W => suffix_any p [47, 62] false h2 (by unfold maxLen; omega) W)
      have hk : (2 : Int) = k := hk
      subst hk
      clear h1 h2
      go_enter Tryz.func132, Tryz.ntmps132
      go_wp2_with fail
      refine (H1.out _).mono ?_
      rintro e w1 ⟨rfl, rfl⟩
      go_wp2_with fail
      refine (H2.out _).mono ?_
      rintro e w1 ⟨rfl, rfl⟩
      go_wp2
      go_ret
      exact ⟨rfl, rfl⟩
    · rw [h2] at hk
      have H2 := Lib.hid (fun W => suffix_any p [47, 62] true h2 (by unfold maxLen; omega) W)
      have hk : (4 : Int) = k := hk
      subst hk
      clear h1 h2
      go_enter Tryz.func132, Tryz.ntmps132
      go_wp2_with fail
      refine (H1.out _).mono ?_
      rintro e w1 ⟨rfl, rfl⟩
      go_wp2_with fail
      refine (H2.out _).mono ?_
      rintro e w1 ⟨rfl, rfl⟩
      go_wp2
      go_ret
      exact ⟨rfl, rfl⟩
  · rw [h1] at hk
    have H1 := Lib.hid (fun W => prefix_any p [60, 47] true h1 W)
    have hk : (3 : Int) = k := hk
    subst hk
    clear h1
    go_enter Tryz.func132, Tryz.ntmps132
    go_wp2_with fail
    refine (H1.out _).mono ?_
    rintro e w1 ⟨rfl, rfl⟩
    go_wp2
    go_ret
    exact ⟨rfl, rfl⟩
theorem kt_pk (m : Bs) : ktR (60 :: (m ++ [62])) = pkOf m := by
  unfold ktR pkOf
  have h1 : ([60, 47] : Bs).isPrefixOf (60 :: (m ++ [62])) = decide (m.head? = some 47) := by
    cases m with
    | nil => rfl
    | cons c t => rw [Bool.eq_iff_iff]; simp [List.isPrefixOf]; exact eq_comm
  have h2 : ([47, 62] : Bs).isSuffixOf (60 :: (m ++ [62])) = decide (m.getLast? = some 47) := by
    rw [Bool.eq_iff_iff, List.isSuffixOf_iff_suffix, decide_eq_true_eq]
    constructor
    · rintro ⟨t, ht⟩
      have h3 : 60 :: (m ++ [62]) = (60 :: m) ++ [62] := rfl
      have h4 : t ++ [47, 62] = (t ++ [47]) ++ [62] := by simp
      rw [h3, h4] at ht
      have h5 := List.append_cancel_right ht
      cases m with
      | nil =>
        have := congrArg List.getLast? h5
        simp at this
      | cons c l =>
        have := congrArg List.getLast? h5
        rw [List.getLast?_append] at this
        simp at this
        rw [this]
    · intro h
      obtain ⟨a, ha⟩ : ∃ a, m = a ++ [47] := by
        have hne : m ≠ [] := by rintro rfl; cases h
        refine ⟨m.dropLast, ?_⟩
        have := List.dropLast_concat_getLast hne
        rw [List.getLast?_eq_some_getLast hne, Option.some.injEq] at h
        rw [h] at this
        exact this.symm
      exact ⟨60 :: a, by rw [ha]; simp⟩
  rw [h1, h2]
  simp only [decide_eq_true_eq]
theorem ct_good {k : Int} {n v : Bs} (hk : k = 2 ∨ k = 3 ∨ k = 4) : ctR k n v = 0 ↔ goodT k n v = true := by
  unfold ctR goodT
  rcases hk with rfl | rfl | rfl
  · cases isTag n <;> cases emptyT n <;> cases rightB n v <;> simp
  · cases isTag n <;> cases emptyT n <;> by_cases h : v = [] <;> simp [h]
  · cases isTag n <;> cases emptyT n <;> cases rightB n v <;> simp
theorem pk_three (m : Bs) : pkOf m = 2 ∨ pkOf m = 3 ∨ pkOf m = 4 := by
  by_cases h1 : m.head? = some 47
  · unfold pkOf; simp [h1]
  · by_cases h2 : m.getLast? = some 47 <;> (unfold pkOf; simp [h1, h2])
theorem pin_cut (m : Bs) : (baL (60 :: (m ++ [62]))).extract (if pkOf m = 3 then [60, 47] else [60] : Bs).length ((60 :: (m ++ [62]) : Bs).length - (if pkOf m = 4 then [47, 62] else [62] : Bs).length) = baL (pin m) := by
  rw [baL_cut]
  congr 1
  unfold pin pkOf
  by_cases h1 : m.head? = some 47
  · obtain ⟨t, rfl⟩ : ∃ t, m = 47 :: t := by
      cases m with
      | nil => cases h1
      | cons c t => exact ⟨t, by rw [show c = 47 by simpa using h1]⟩
    simp
  · rw [if_neg h1, if_neg h1]
    by_cases h2 : m.getLast? = some 47
    · obtain ⟨a, rfl⟩ : ∃ a, m = a ++ [47] := by
        have hne : m ≠ [] := by rintro rfl; cases h2
        refine ⟨m.dropLast, ?_⟩
        have := List.dropLast_concat_getLast hne
        rw [List.getLast?_eq_some_getLast hne, Option.some.injEq] at h2
        rw [h2] at this
        exact this.symm
      simp
    · simp [h2]
def ReadP (x : (Int × Bs × Bs) × Int) (w : World) (e : Ending) (w' : World) : Prop := e = .returned (.tuple #[.agg #[intV x.1.1, sV x.1.2.1, sV x.1.2.2, intV 0], intV x.2]) ∧ Below w.heap.size w w'
abbrev lexW (w : World) (k : Int) (n v : Bs) (o : Int) : World := w.alloc (.cells #[intV k, sV n, sV v, intV o] 52)
theorem ptag_no {m : Bs} (h : isTag (pnm m) = false) : ptagR m = ((0, [], []), 12) := by unfold ptagR; rw [h]; rfl
theorem ptag_bad {m : Bs} (h : isTag (pnm m) = true) (hc : ctR (pkOf m) (pnm m) (pvl m) ≠ 0) : ptagR m = ((0, [], []), 3) := by
  unfold ptagR
  rw [if_pos h, if_neg (fun q => hc ((ct_good (pk_three m)).2 q.1))]
theorem ct_close {k : Int} {n v : Bs} (h : ctR k n v = 0) (hk : k = 3) : v = [] := by
  subst hk
  unfold ctR at h
  split at h
  · cases h
  · by_cases hv : v = []
    · exact hv
    · rw [if_pos rfl, decide_eq_false hv] at h
      cases h
theorem ptag_ok {m : Bs} (h : isTag (pnm m) = true) (hc : ctR (pkOf m) (pnm m) (pvl m) = 0) : ptagR m = if wrF (pkOf m) (pnm m) (pvl m) = 60 :: (m ++ [62]) then ((pkOf m, pnm m, pvl m), 0) else ((0, [], []), 3) := by
  unfold ptagR
  rw [if_pos h, wr_form (by have := pk_three m; omega) (ct_close hc)]
  have hg := (ct_good (pk_three m)).1 hc
  by_cases hw : formF (pkOf m) (pnm m) (pvl m) = 60 :: (m ++ [62])
  · rw [if_pos hw, if_pos ⟨hg, hw⟩]
  · rw [if_neg hw, if_neg (fun q => hw q.2)]
set_option maxHeartbeats 4000000 in
theorem readNo_any (p : Bs) (hp : p.getLast? ≠ some 62) (hl : p.length ≤ 65536) (w : World) :
    Calls Tryz.prog 113 #[sV p] w (ReadP ((0, [], []), 3) w) := by
  have hs : ([62] : Bs).isSuffixOf p = false := by
    rw [Bool.eq_false_iff]
    intro h
    rw [List.isSuffixOf_iff_suffix] at h
    obtain ⟨t, rfl⟩ := h
    exact hp (by simp)
  have HS := Lib.hid (fun W => suffix_any p [62] false hs (by unfold maxLen; omega) W)
  clear hs hp hl
  go_enter Tryz.func113, Tryz.ntmps113
  go_wp2_with fail
  refine (HS.out _).mono ?_
  rintro e w1 ⟨rfl, rfl⟩
  go_wp2
  exact bodyPost_ret (v := .tuple #[.agg #[intV 0, sV [], sV [], intV 0], intV 3]) (by simp [results, Tryz.results113, go_sem]; rfl) rfl ⟨rfl, below_alloc _ _⟩
theorem se_len (m : Bs) : (if pkOf m = 3 then [60, 47] else [60] : Bs).length + (if pkOf m = 4 then [47, 62] else [62] : Bs).length ≤ (60 :: (m ++ [62]) : Bs).length := by
  unfold pkOf
  by_cases h1 : m.head? = some 47
  · cases m with
    | nil => cases h1
    | cons c t => simp [h1]
  · by_cases h2 : m.getLast? = some 47
    · cases m with
      | nil => cases h2
      | cons c t => rw [if_neg h1, if_pos h2]; simp
    · rw [if_neg h1, if_neg h2]; simp
theorem trim_le (l p : Bs) : (Lib.trimPrefix l p).length ≤ l.length := by
  unfold Lib.trimPrefix
  split
  · rw [List.length_drop]; omega
  · exact Nat.le_refl _
set_option maxHeartbeats 8000000 in
theorem readTag_any (m : Bs) (hl : m.length ≤ 65534) (w : World) [T w] :
    Calls Tryz.prog 113 #[sV (60 :: (m ++ [62]))] w (ReadP (ptagR m) w) := by
  obtain ⟨p, hp⟩ : ∃ p : Bs, 60 :: (m ++ [62]) = p := ⟨_, rfl⟩
  have hpl : p.length ≤ 65536 := by rw [← hp]; simp; omega
  have hsuf : ([62] : Bs).isSuffixOf p = true := by rw [List.isSuffixOf_iff_suffix, ← hp]; exact ⟨60 :: m, rfl⟩
  have HS := Lib.hid (fun W => suffix_any p [62] true hsuf (by unfold maxLen; omega) W)
  have HK := Lib.hid (fun W => kindOf_any p (pkOf m) (by rw [← hp]; exact kt_pk m) hpl W)
  have HA := Lib.hid (fun W => around_any (pkOf m) W)
  have hsz : (baL p).size = p.length := baL_size p
  have hcut := pin_cut m
  have hse := se_len m
  have hIl : (pin m).length ≤ 65534 := by
    unfold pin
    split
    · simp; omega
    · split
      · simp; omega
      · exact hl
  have hNl : (pnm m).length ≤ (pin m).length := (List.takeWhile_prefix _).length_le
  have hVl : (pvl m).length ≤ (pin m).length := Nat.le_trans (trim_le _ _) (by rw [List.length_drop]; omega)
  have hrest : (baL (pin m)).extract (pnm m).length (pin m).length = baL ((pin m).drop (pnm m).length) := by
    rw [baL_cut]
    congr 1
    exact List.take_of_length_le (by rw [List.length_drop]; omega)
  have HTR := Lib.hid (fun W => trim_any ((pin m).drop (pnm m).length) [32] (pvl m) rfl W)
  have hname : (baL (pin m)).extract 0 (pnm m).length = baL (pnm m) := by
    rw [baL_cut, List.drop_zero, Nat.sub_zero]
    congr 1
    exact (List.prefix_iff_eq_take.1 (List.takeWhile_prefix _)).symm
  have hidx : (Lib.indexAny (pin m) [32, 47] = -1 ∧ pnm m = pin m) ∨ Lib.indexAny (pin m) [32, 47] = ((pnm m).length : Nat) := by
    rw [any_nm]
    by_cases hd : (pin m).dropWhile nmC = []
    · left
      rw [if_pos hd]
      refine ⟨rfl, ?_⟩
      have := List.takeWhile_append_dropWhile (p := nmC) (l := pin m)
      rw [hd, List.append_nil] at this
      exact this
    · right
      rw [if_neg hd]; rfl
  have hno : isTag (pnm m) = false → ptagR m = ((0, [], []), 12) := ptag_no
  have hbad : isTag (pnm m) = true → ctR (pkOf m) (pnm m) (pvl m) ≠ 0 → ptagR m = ((0, [], []), 3) := ptag_bad
  have hok : isTag (pnm m) = true → ctR (pkOf m) (pnm m) (pvl m) = 0 → ptagR m = if wrF (pkOf m) (pnm m) (pvl m) = p then ((pkOf m, pnm m, pvl m), 0) else ((0, [], []), 3) := fun a b => by rw [← hp]; exact ptag_ok a b
  obtain ⟨S, hS⟩ : ∃ S, (if pkOf m = 3 then [60, 47] else [60] : Bs) = S := ⟨_, rfl⟩
  obtain ⟨E, hE⟩ : ∃ E, (if pkOf m = 4 then [47, 62] else [62] : Bs) = E := ⟨_, rfl⟩
  rw [hS, hE] at HA hse hcut
  rw [hp] at hse hcut ⊢
  obtain ⟨X, hX⟩ : ∃ X, ptagR m = X := ⟨_, rfl⟩
  rw [hX] at hno hbad hok ⊢
  obtain ⟨k, hk⟩ : ∃ k, pkOf m = k := ⟨_, rfl⟩
  obtain ⟨n, hn⟩ : ∃ n, pnm m = n := ⟨_, rfl⟩
  obtain ⟨v, hv⟩ : ∃ v, pvl m = v := ⟨_, rfl⟩
  obtain ⟨I, hI⟩ : ∃ I, pin m = I := ⟨_, rfl⟩
  rw [hk] at HK HA hbad hok
  rw [hn] at hNl hrest HTR hname hidx hno hbad hok
  rw [hv] at hVl HTR hbad hok
  rw [hI] at hIl hNl hVl hrest HTR hname hidx hcut
  clear hS hE hX hk hn hv hI hsuf hp hl
  have hSz : (baL S).size = S.length := baL_size S
  have hEz : (baL E).size = E.length := baL_size E
  have hIz : (baL I).size = I.length := baL_size I
  have hNz : (baL n).size = n.length := baL_size n
  obtain ⟨hh, hhe⟩ : ∃ hh, p.length - E.length = hh := ⟨_, rfl⟩
  have hwk : IntKind.i64.wrap ((p.length : Int) - (E.length : Int)) = (hh : Int) := by
    rw [show (p.length : Int) - (E.length : Int) = (hh : Int) by omega]
    exact IntWalk.i64_in _ (by omega)
  rw [hhe] at hcut
  have hlow : (S.length : Int) ≤ (hh : Int) := by omega
  have hlo2 : S.length ≤ hh := by omega
  have hhi : (hh : Int) ≤ (p.length : Int) := by omega
  have hhi2 : hh ≤ p.length := by omega
  have hS0 : (0 : Int) ≤ (S.length : Int) := by omega
  have hni : (n.length : Int) ≤ (I.length : Int) := by omega
  have hn0 : (0 : Int) ≤ (n.length : Int) := by omega
  have hsI : sV I = .string (baL I) := rfl
  have HCUT := Lib.hid hcut
  have HREST := Lib.hid hrest
  have HNAME := Lib.hid hname
  have HNO := Lib.hid hno
  have HBAD := Lib.hid hbad
  have HOK := Lib.hid hok
  have HTG := Lib.hid (fun W => tagOf_any n W)
  obtain ⟨w0, hw0⟩ : ∃ x, lexW w 0 [] [] 0 = x := ⟨_, rfl⟩
  have hB0 : Below w.heap.size w w0 := by rw [← hw0]; exact below_alloc _ _
  have hbx : w0.heap[w.heap.size]? = some (.cells #[intV 0, sV [], sV [], intV 0] 52 (0, 0)) := by rw [← hw0]; exact World.alloc_heap_new _ _
  have hs0 : w0.heap.size = w.heap.size + 1 := by rw [← hw0]; simp
  have HW0 := Lib.hid hw0
  have HB0 := Lib.hid hB0
  have HBX := Lib.hid hbx
  clear hw0 hB0 hbx hhe hcut hrest hname hno hbad hok hse
  rcases hidx with ⟨hi, hnI⟩ | hi
  · have HI := Lib.hid (fun W => any_any I (-1) hi (by omega) W)
    subst hnI
    clear hi
    go_enter Tryz.func113, Tryz.ntmps113
    go_upto_region 1 with fail
    rw [show w.alloc (.cells #[intV 0, .string ⟨#[]⟩, .string ⟨#[]⟩, intV 0] 52) = w0 from HW0.out]
    go_wp2_with fail
    refine (HS.out _).mono ?_
    rintro e w1 ⟨rfl, rfl⟩
    go_wp2_with fail
    refine (HK.out _).mono ?_
    rintro e w1 ⟨rfl, rfl⟩
    go_wp2_with fail
    refine (HA.out _).mono ?_
    rintro e w1 ⟨rfl, rfl⟩
    go_wp2_with fail
    rw [HCUT.out]
    refine (HI.out _).mono ?_
    rintro e w2 ⟨rfl, h2⟩
    have hb2 := (h2.block _ (by omega)).trans HBX.out
    have H2 := Lib.hid (HB0.out.trans (h2.mono (by omega)))
    have HX2 := Lib.hid hb2
    have hs2 := h2.size
    clear h2 hb2
    go_wp2_with fail
    refine (HTG.out _).mono ?_
    rintro e w3 (⟨hT, f, lb, rfl, hf, h3⟩ | ⟨hT, rfl, h3⟩)
    · have hb3 := (h3.block _ (by omega)).trans HX2.out
      have hs3 := h3.size
      obtain ⟨w4, hw4⟩ : ∃ x, (w3.alloc (.cells #[sV n, .bool (emptyT n), .func (.func f) #[] lb] 135)).alloc (.cells #[intV k, sV n, sV v, intV 0] 52) = x := ⟨_, rfl⟩
      have hB4 : Below w3.heap.size w3 w4 := by rw [← hw4]; exact ((Below.refl _ w3).alloc (Nat.le_refl _) _).alloc (by simp) _
      have hlx : w4.heap[w3.heap.size + 1]? = some (.cells #[intV k, sV n, sV v, intV 0] 52 (0, 0)) := by
        rw [← hw4]
        have := World.alloc_heap_new (w3.alloc (.cells #[sV n, .bool (emptyT n), .func (.func f) #[] lb] 135)) (.cells #[intV k, sV n, sV v, intV 0] 52)
        rw [World.size_alloc] at this
        exact this
      have hs4 : w4.heap.size = w3.heap.size + 2 := by rw [← hw4]; simp
      have hb4 := (hB4.block _ (by omega)).trans hb3
      have H4 := Lib.hid (H2.out.trans ((h3.mono (by omega)).trans (hB4.mono (by omega))))
      haveI : T w4 := T.below H4.out
      obtain ⟨c, hc⟩ : ∃ c, ctR k n v = c := ⟨_, rfl⟩
      have HCT := Lib.hid (checkTag_any k n v 0 (by unfold maxLen; omega) (by omega) c hc w4)
      have HW4 := Lib.hid hw4
      have HX4 := Lib.hid (And.intro hb4 hlx)
      have HTT := Lib.hid hT
      have HCC := Lib.hid hc
      obtain ⟨l0, l1, l2, l3⟩ := heap4P hlx
      clear hf h3 hb3 hw4 hB4 hlx hb4 hT hc
      go_wp2_with fail
      rw [show ByteArray.empty = baL (n.drop n.length) from by rw [List.drop_length]; rfl]
      refine (HTR.out _).mono ?_
      rintro e w5 ⟨rfl, rfl⟩
      go_upto_region 15 with fail
      rw [HW4.out]
      go_wp2_with fail
      refine HCT.out.mono ?_
      rintro e w5 ⟨rfl, h5⟩
      have hb5 := (h5.block _ (by omega)).trans HX4.out.1
      have hlx5 := (h5.block _ (by omega)).trans HX4.out.2
      have hs5 := h5.size
      have H5 := Lib.hid (H4.out.trans (h5.mono (by omega)))
      clear l0 l1 l2 l3 h5
      by_cases hc0 : c = 0
      · have q0 : (c != 0) = false := by simp [hc0]
        have HX := Lib.hid (HOK.out HTT.out (by rw [HCC.out]; exact hc0))
        obtain ⟨l0, l1, l2, l3⟩ := heap4P hlx5
        obtain ⟨t, ht⟩ : ∃ t, wrF k n v = t := ⟨_, rfl⟩
        have HWR := Lib.hid (written_any k n v 0 t ht (by omega) (by omega) w5)
        rw [ht] at HX
        have HX5 := Lib.hid (And.intro hb5 hlx5)
        have htl : (baL t).toList = t := toL t
        have hpt : (baL p).toList = p := toL p
        obtain ⟨zt, hzt⟩ : ∃ z, baL t = z := ⟨_, rfl⟩
        rw [show sV t = .string (baL t) from rfl, hzt] at HWR
        rw [hzt] at htl
        have HPT := Lib.hid (And.intro htl hpt)
        clear ht hc0 hb5 hlx5 htl hpt hzt
        go_wp2_with fail
        refine HWR.out.mono ?_
        rintro e w6 ⟨rfl, h6⟩
        have hb6 := (h6.block _ (by omega)).trans HX5.out.1
        have hlx6 := (h6.block _ (by omega)).trans HX5.out.2
        have hs6 := h6.size
        have H6 := Lib.hid (H5.out.trans (h6.mono (by omega)))
        clear l0 l1 l2 l3 h6
        by_cases htp : t = p
        · have q1 : (zt.toList == (baL p).toList) = true := by rw [HPT.out.1, HPT.out.2, htp]; simp
          have HE := Lib.hid (show X = ((k, n, v), 0) by rw [HX.out, if_pos htp])
          clear htp
          obtain ⟨l0, l1, l2, l3⟩ := heap4P hlx6
          clear hlx6
          obtain ⟨c0, c1, c2, c3⟩ := heap4P hb6
          have f0 := heap_free hb6 0
          have f1 := heap_free hb6 1
          have f2 := heap_free hb6 2
          have f3 := heap_free hb6 3
          obtain ⟨Wz, hWz⟩ : ∃ x, (((w6.setCell ⟨w.heap.size, 0, none⟩ (intV k)).setCell ⟨w.heap.size, 1, none⟩ (sV n)).setCell ⟨w.heap.size, 2, none⟩ (sV v)).setCell ⟨w.heap.size, 3, none⟩ (intV 0) = x := ⟨_, rfl⟩
          have HSZ := Lib.hid (set4P hb6 (Nat.le_refl _) hWz)
          have HWZ := Lib.hid hWz
          clear hWz hb6
          go_wp2
          rw [HWZ.out]
          obtain ⟨z1, z2, z3⟩ := HSZ.out
          obtain ⟨d0, d1, d2, d3⟩ := heap4P z1
          refine bodyPost_ret (v := .tuple #[.agg #[intV k, sV n, sV v, intV 0], intV 0]) (by simp [results, Tryz.results113, go_sem, d0, d1, d2, d3]) rfl ⟨?_, H6.out.trans z3⟩
          rw [HE.out]
        · have q1 : (zt.toList == (baL p).toList) = false := by rw [HPT.out.1, HPT.out.2]; simpa using htp
          have HE := Lib.hid (show X = ((0, [], []), 3) by rw [HX.out, if_neg htp])
          clear htp hlx6
          obtain ⟨c0, c1, c2, c3⟩ := heap4P hb6
          have f0 := heap_free hb6 0
          have f1 := heap_free hb6 1
          have f2 := heap_free hb6 2
          have f3 := heap_free hb6 3
          obtain ⟨Wz, hWz⟩ : ∃ x, (((w6.setCell ⟨w.heap.size, 0, none⟩ (intV 0)).setCell ⟨w.heap.size, 1, none⟩ (.string ⟨#[]⟩)).setCell ⟨w.heap.size, 2, none⟩ (.string ⟨#[]⟩)).setCell ⟨w.heap.size, 3, none⟩ (intV 0) = x := ⟨_, rfl⟩
          have HSZ := Lib.hid (set4P hb6 (Nat.le_refl _) hWz)
          have HWZ := Lib.hid hWz
          clear hWz hb6
          go_wp2
          rw [HWZ.out]
          obtain ⟨z1, z2, z3⟩ := HSZ.out
          obtain ⟨d0, d1, d2, d3⟩ := heap4P z1
          refine bodyPost_ret (v := .tuple #[.agg #[intV 0, .string ⟨#[]⟩, .string ⟨#[]⟩, intV 0], intV 3]) (by simp [results, Tryz.results113, go_sem, d0, d1, d2, d3]) rfl ⟨?_, H6.out.trans z3⟩
          rw [HE.out]; rfl
      · have q0 : (c != 0) = true := by simpa using hc0
        have HE := Lib.hid (HBAD.out HTT.out (by rw [HCC.out]; exact hc0))
        clear hc0 hlx5
        obtain ⟨c0, c1, c2, c3⟩ := heap4P hb5
        have f0 := heap_free hb5 0
        have f1 := heap_free hb5 1
        have f2 := heap_free hb5 2
        have f3 := heap_free hb5 3
        obtain ⟨Wz, hWz⟩ : ∃ x, (((w5.setCell ⟨w.heap.size, 0, none⟩ (intV 0)).setCell ⟨w.heap.size, 1, none⟩ (.string ⟨#[]⟩)).setCell ⟨w.heap.size, 2, none⟩ (.string ⟨#[]⟩)).setCell ⟨w.heap.size, 3, none⟩ (intV 0) = x := ⟨_, rfl⟩
        have HSZ := Lib.hid (set4P hb5 (Nat.le_refl _) hWz)
        have HWZ := Lib.hid hWz
        clear hWz hb5
        go_wp2
        rw [HWZ.out]
        obtain ⟨z1, z2, z3⟩ := HSZ.out
        obtain ⟨d0, d1, d2, d3⟩ := heap4P z1
        refine bodyPost_ret (v := .tuple #[.agg #[intV 0, .string ⟨#[]⟩, .string ⟨#[]⟩, intV 0], intV 3]) (by simp [results, Tryz.results113, go_sem, d0, d1, d2, d3]) rfl ⟨?_, H5.out.trans z3⟩
        rw [HE.out]; rfl
    · have hb3 := (h3.block _ (by omega)).trans HX2.out
      have hs3 := h3.size
      obtain ⟨w4, hw4⟩ : ∃ x, w3.alloc (.cells #[sV [], .bool false, .nilFunc] 135) = x := ⟨_, rfl⟩
      have hB4 : Below w3.heap.size w3 w4 := by rw [← hw4]; exact below_alloc _ _
      have hb4 := (hB4.block _ (by omega)).trans hb3
      have H4 := Lib.hid (H2.out.trans ((h3.mono (by omega)).trans (hB4.mono (by omega))))
      have HW4 := Lib.hid hw4
      have HE := Lib.hid (HNO.out hT)
      clear h3 hb3 hw4 hB4 hT
      go_upto_region 11 with fail
      rw [HW4.out]
      obtain ⟨c0, c1, c2, c3⟩ := heap4P hb4
      have f0 := heap_free hb4 0
      have f1 := heap_free hb4 1
      have f2 := heap_free hb4 2
      have f3 := heap_free hb4 3
      obtain ⟨Wz, hWz⟩ : ∃ x, (((w4.setCell ⟨w.heap.size, 0, none⟩ (intV 0)).setCell ⟨w.heap.size, 1, none⟩ (.string ⟨#[]⟩)).setCell ⟨w.heap.size, 2, none⟩ (.string ⟨#[]⟩)).setCell ⟨w.heap.size, 3, none⟩ (intV 0) = x := ⟨_, rfl⟩
      have HSZ := Lib.hid (set4P hb4 (Nat.le_refl _) hWz)
      have HWZ := Lib.hid hWz
      clear hWz hb4
      go_wp2
      rw [HWZ.out]
      obtain ⟨z1, z2, z3⟩ := HSZ.out
      obtain ⟨d0, d1, d2, d3⟩ := heap4P z1
      refine bodyPost_ret (v := .tuple #[.agg #[intV 0, .string ⟨#[]⟩, .string ⟨#[]⟩, intV 0], intV 12]) (by simp [results, Tryz.results113, go_sem, d0, d1, d2, d3]) rfl ⟨?_, H4.out.trans z3⟩
      rw [HE.out]; rfl
  · have HI := Lib.hid (fun W => any_any I _ hi (by omega) W)
    clear hi
    go_enter Tryz.func113, Tryz.ntmps113
    go_upto_region 1 with fail
    rw [show w.alloc (.cells #[intV 0, .string ⟨#[]⟩, .string ⟨#[]⟩, intV 0] 52) = w0 from HW0.out]
    go_wp2_with fail
    refine (HS.out _).mono ?_
    rintro e w1 ⟨rfl, rfl⟩
    go_wp2_with fail
    refine (HK.out _).mono ?_
    rintro e w1 ⟨rfl, rfl⟩
    go_wp2_with fail
    refine (HA.out _).mono ?_
    rintro e w1 ⟨rfl, rfl⟩
    go_wp2_with fail
    rw [HCUT.out]
    refine (HI.out _).mono ?_
    rintro e w2 ⟨rfl, h2⟩
    have hb2 := (h2.block _ (by omega)).trans HBX.out
    have H2 := Lib.hid (HB0.out.trans (h2.mono (by omega)))
    have HX2 := Lib.hid hb2
    have hs2 := h2.size
    clear h2 hb2
    go_wp2_with fail
    rw [HNAME.out]
    refine (HTG.out _).mono ?_
    rintro e w3 (⟨hT, f, lb, rfl, hf, h3⟩ | ⟨hT, rfl, h3⟩)
    · have hb3 := (h3.block _ (by omega)).trans HX2.out
      have hs3 := h3.size
      obtain ⟨w4, hw4⟩ : ∃ x, (w3.alloc (.cells #[sV n, .bool (emptyT n), .func (.func f) #[] lb] 135)).alloc (.cells #[intV k, sV n, sV v, intV 0] 52) = x := ⟨_, rfl⟩
      have hB4 : Below w3.heap.size w3 w4 := by rw [← hw4]; exact ((Below.refl _ w3).alloc (Nat.le_refl _) _).alloc (by simp) _
      have hlx : w4.heap[w3.heap.size + 1]? = some (.cells #[intV k, sV n, sV v, intV 0] 52 (0, 0)) := by
        rw [← hw4]
        have := World.alloc_heap_new (w3.alloc (.cells #[sV n, .bool (emptyT n), .func (.func f) #[] lb] 135)) (.cells #[intV k, sV n, sV v, intV 0] 52)
        rw [World.size_alloc] at this
        exact this
      have hs4 : w4.heap.size = w3.heap.size + 2 := by rw [← hw4]; simp
      have hb4 := (hB4.block _ (by omega)).trans hb3
      have H4 := Lib.hid (H2.out.trans ((h3.mono (by omega)).trans (hB4.mono (by omega))))
      haveI : T w4 := T.below H4.out
      obtain ⟨c, hc⟩ : ∃ c, ctR k n v = c := ⟨_, rfl⟩
      have HCT := Lib.hid (checkTag_any k n v 0 (by unfold maxLen; omega) (by omega) c hc w4)
      have HW4 := Lib.hid hw4
      have HX4 := Lib.hid (And.intro hb4 hlx)
      have HTT := Lib.hid hT
      have HCC := Lib.hid hc
      obtain ⟨l0, l1, l2, l3⟩ := heap4P hlx
      clear hf h3 hb3 hw4 hB4 hlx hb4 hT hc
      go_wp2_with fail
      rw [HREST.out]
      refine (HTR.out _).mono ?_
      rintro e w5 ⟨rfl, rfl⟩
      go_upto_region 15 with fail
      rw [HW4.out]
      go_wp2_with fail
      refine HCT.out.mono ?_
      rintro e w5 ⟨rfl, h5⟩
      have hb5 := (h5.block _ (by omega)).trans HX4.out.1
      have hlx5 := (h5.block _ (by omega)).trans HX4.out.2
      have hs5 := h5.size
      have H5 := Lib.hid (H4.out.trans (h5.mono (by omega)))
      clear l0 l1 l2 l3 h5
      by_cases hc0 : c = 0
      · have q0 : (c != 0) = false := by simp [hc0]
        have HX := Lib.hid (HOK.out HTT.out (by rw [HCC.out]; exact hc0))
        obtain ⟨l0, l1, l2, l3⟩ := heap4P hlx5
        obtain ⟨t, ht⟩ : ∃ t, wrF k n v = t := ⟨_, rfl⟩
        have HWR := Lib.hid (written_any k n v 0 t ht (by omega) (by omega) w5)
        rw [ht] at HX
        have HX5 := Lib.hid (And.intro hb5 hlx5)
        have htl : (baL t).toList = t := toL t
        have hpt : (baL p).toList = p := toL p
        obtain ⟨zt, hzt⟩ : ∃ z, baL t = z := ⟨_, rfl⟩
        rw [show sV t = .string (baL t) from rfl, hzt] at HWR
        rw [hzt] at htl
        have HPT := Lib.hid (And.intro htl hpt)
        clear ht hc0 hb5 hlx5 htl hpt hzt
        go_wp2_with fail
        refine HWR.out.mono ?_
        rintro e w6 ⟨rfl, h6⟩
        have hb6 := (h6.block _ (by omega)).trans HX5.out.1
        have hlx6 := (h6.block _ (by omega)).trans HX5.out.2
        have hs6 := h6.size
        have H6 := Lib.hid (H5.out.trans (h6.mono (by omega)))
        clear l0 l1 l2 l3 h6
        by_cases htp : t = p
        · have q1 : (zt.toList == (baL p).toList) = true := by rw [HPT.out.1, HPT.out.2, htp]; simp
          have HE := Lib.hid (show X = ((k, n, v), 0) by rw [HX.out, if_pos htp])
          clear htp
          obtain ⟨l0, l1, l2, l3⟩ := heap4P hlx6
          clear hlx6
          obtain ⟨c0, c1, c2, c3⟩ := heap4P hb6
          have f0 := heap_free hb6 0
          have f1 := heap_free hb6 1
          have f2 := heap_free hb6 2
          have f3 := heap_free hb6 3
          obtain ⟨Wz, hWz⟩ : ∃ x, (((w6.setCell ⟨w.heap.size, 0, none⟩ (intV k)).setCell ⟨w.heap.size, 1, none⟩ (sV n)).setCell ⟨w.heap.size, 2, none⟩ (sV v)).setCell ⟨w.heap.size, 3, none⟩ (intV 0) = x := ⟨_, rfl⟩
          have HSZ := Lib.hid (set4P hb6 (Nat.le_refl _) hWz)
          have HWZ := Lib.hid hWz
          clear hWz hb6
          go_wp2
          rw [HWZ.out]
          obtain ⟨z1, z2, z3⟩ := HSZ.out
          obtain ⟨d0, d1, d2, d3⟩ := heap4P z1
          refine bodyPost_ret (v := .tuple #[.agg #[intV k, sV n, sV v, intV 0], intV 0]) (by simp [results, Tryz.results113, go_sem, d0, d1, d2, d3]) rfl ⟨?_, H6.out.trans z3⟩
          rw [HE.out]
        · have q1 : (zt.toList == (baL p).toList) = false := by rw [HPT.out.1, HPT.out.2]; simpa using htp
          have HE := Lib.hid (show X = ((0, [], []), 3) by rw [HX.out, if_neg htp])
          clear htp hlx6
          obtain ⟨c0, c1, c2, c3⟩ := heap4P hb6
          have f0 := heap_free hb6 0
          have f1 := heap_free hb6 1
          have f2 := heap_free hb6 2
          have f3 := heap_free hb6 3
          obtain ⟨Wz, hWz⟩ : ∃ x, (((w6.setCell ⟨w.heap.size, 0, none⟩ (intV 0)).setCell ⟨w.heap.size, 1, none⟩ (.string ⟨#[]⟩)).setCell ⟨w.heap.size, 2, none⟩ (.string ⟨#[]⟩)).setCell ⟨w.heap.size, 3, none⟩ (intV 0) = x := ⟨_, rfl⟩
          have HSZ := Lib.hid (set4P hb6 (Nat.le_refl _) hWz)
          have HWZ := Lib.hid hWz
          clear hWz hb6
          go_wp2
          rw [HWZ.out]
          obtain ⟨z1, z2, z3⟩ := HSZ.out
          obtain ⟨d0, d1, d2, d3⟩ := heap4P z1
          refine bodyPost_ret (v := .tuple #[.agg #[intV 0, .string ⟨#[]⟩, .string ⟨#[]⟩, intV 0], intV 3]) (by simp [results, Tryz.results113, go_sem, d0, d1, d2, d3]) rfl ⟨?_, H6.out.trans z3⟩
          rw [HE.out]; rfl
      · have q0 : (c != 0) = true := by simpa using hc0
        have HE := Lib.hid (HBAD.out HTT.out (by rw [HCC.out]; exact hc0))
        clear hc0 hlx5
        obtain ⟨c0, c1, c2, c3⟩ := heap4P hb5
        have f0 := heap_free hb5 0
        have f1 := heap_free hb5 1
        have f2 := heap_free hb5 2
        have f3 := heap_free hb5 3
        obtain ⟨Wz, hWz⟩ : ∃ x, (((w5.setCell ⟨w.heap.size, 0, none⟩ (intV 0)).setCell ⟨w.heap.size, 1, none⟩ (.string ⟨#[]⟩)).setCell ⟨w.heap.size, 2, none⟩ (.string ⟨#[]⟩)).setCell ⟨w.heap.size, 3, none⟩ (intV 0) = x := ⟨_, rfl⟩
        have HSZ := Lib.hid (set4P hb5 (Nat.le_refl _) hWz)
        have HWZ := Lib.hid hWz
        clear hWz hb5
        go_wp2
        rw [HWZ.out]
        obtain ⟨z1, z2, z3⟩ := HSZ.out
        obtain ⟨d0, d1, d2, d3⟩ := heap4P z1
        refine bodyPost_ret (v := .tuple #[.agg #[intV 0, .string ⟨#[]⟩, .string ⟨#[]⟩, intV 0], intV 3]) (by simp [results, Tryz.results113, go_sem, d0, d1, d2, d3]) rfl ⟨?_, H5.out.trans z3⟩
        rw [HE.out]; rfl
    · have hb3 := (h3.block _ (by omega)).trans HX2.out
      have hs3 := h3.size
      obtain ⟨w4, hw4⟩ : ∃ x, w3.alloc (.cells #[sV [], .bool false, .nilFunc] 135) = x := ⟨_, rfl⟩
      have hB4 : Below w3.heap.size w3 w4 := by rw [← hw4]; exact below_alloc _ _
      have hb4 := (hB4.block _ (by omega)).trans hb3
      have H4 := Lib.hid (H2.out.trans ((h3.mono (by omega)).trans (hB4.mono (by omega))))
      have HW4 := Lib.hid hw4
      have HE := Lib.hid (HNO.out hT)
      clear h3 hb3 hw4 hB4 hT
      go_upto_region 11 with fail
      rw [HW4.out]
      obtain ⟨c0, c1, c2, c3⟩ := heap4P hb4
      have f0 := heap_free hb4 0
      have f1 := heap_free hb4 1
      have f2 := heap_free hb4 2
      have f3 := heap_free hb4 3
      obtain ⟨Wz, hWz⟩ : ∃ x, (((w4.setCell ⟨w.heap.size, 0, none⟩ (intV 0)).setCell ⟨w.heap.size, 1, none⟩ (.string ⟨#[]⟩)).setCell ⟨w.heap.size, 2, none⟩ (.string ⟨#[]⟩)).setCell ⟨w.heap.size, 3, none⟩ (intV 0) = x := ⟨_, rfl⟩
      have HSZ := Lib.hid (set4P hb4 (Nat.le_refl _) hWz)
      have HWZ := Lib.hid hWz
      clear hWz hb4
      go_wp2
      rw [HWZ.out]
      obtain ⟨z1, z2, z3⟩ := HSZ.out
      obtain ⟨d0, d1, d2, d3⟩ := heap4P z1
      refine bodyPost_ret (v := .tuple #[.agg #[intV 0, .string ⟨#[]⟩, .string ⟨#[]⟩, intV 0], intV 12]) (by simp [results, Tryz.results113, go_sem, d0, d1, d2, d3]) rfl ⟨?_, H4.out.trans z3⟩
      rw [HE.out]; rfl
set_option maxHeartbeats 2000000 in
theorem read_any (p : Bs) (hp : p.length ≤ 65536) (w : World) [T w] :
    Calls Tryz.prog 91 #[sV p] w (ReadP (readR p) w) := by
  obtain ⟨w0, hw0⟩ : ∃ x, lexW w 0 [] [] 0 = x := ⟨_, rfl⟩
  have hB0 : Below w.heap.size w w0 := by rw [← hw0]; exact below_alloc _ _
  have hbx : w0.heap[w.heap.size]? = some (.cells #[intV 0, sV [], sV [], intV 0] 52 (0, 0)) := by rw [← hw0]; exact World.alloc_heap_new _ _
  have hs0 : w0.heap.size = w.heap.size + 1 := by rw [← hw0]; simp
  have HW0 := Lib.hid hw0
  have HB0 := Lib.hid hB0
  have HBX := Lib.hid hbx
  haveI : T w0 := T.below hB0
  clear hw0 hB0 hbx
  by_cases h6 : p.head? = some 60
  · have hpre : ([60] : Bs).isPrefixOf p = true := by
      cases p with
      | nil => cases h6
      | cons c l =>
        have : c = 60 := by simpa using h6
        subst this; rfl
    have HP := Lib.hid (fun W => prefix_any p [60] true hpre W)
    obtain ⟨X, hX, HRT⟩ : ∃ X, readR p = X ∧ Hid (∀ (W : World) [T W], Calls Tryz.prog 113 #[sV p] W (ReadP X W)) := by
      unfold readR
      rw [if_pos h6]
      by_cases h2 : p.getLast? = some 62
      · rw [if_pos h2]
        refine ⟨_, rfl, Lib.hid fun W hT => ?_⟩
        obtain ⟨t, rfl⟩ : ∃ t, p = 60 :: t := by
          cases p with
          | nil => cases h6
          | cons c l => exact ⟨l, by rw [show c = 60 by simpa using h6]⟩
        have ht : t ≠ [] := by rintro rfl; simp at h2
        have h3 : t.getLast? = some 62 := by
          rw [List.getLast?_cons_of_ne_nil ht] at h2; exact h2
        have h4 : t = t.dropLast ++ [62] := by
          have := List.dropLast_concat_getLast ht
          rw [List.getLast?_eq_some_getLast ht, Option.some.injEq] at h3
          rw [h3] at this; exact this.symm
        have := readTag_any t.dropLast (by rw [List.length_dropLast]; simp at hp; omega) W
        rw [← h4] at this
        exact this
      · rw [if_neg h2]
        exact ⟨_, rfl, Lib.hid fun W _ => readNo_any p h2 hp W⟩
    rw [hX]
    obtain ⟨⟨k, n, v⟩, e⟩ := X
    clear hX hpre h6
    go_enter Tryz.func91, Tryz.ntmps91
    go_upto_region 1 with fail
    rw [show w.alloc (.cells #[intV 0, .string ⟨#[]⟩, .string ⟨#[]⟩, intV 0] 52) = w0 from HW0.out]
    go_wp2_with fail
    refine (HP.out _).mono ?_
    rintro e' w1 ⟨rfl, rfl⟩
    go_wp2_with fail
    refine (HRT.out _).mono ?_
    rintro e' w2 ⟨rfl, h2⟩
    have hb2 := (h2.block _ (by omega)).trans HBX.out
    have H2 := Lib.hid (HB0.out.trans (h2.mono (by omega)))
    simp only
    clear h2
    obtain ⟨c0, c1, c2, c3⟩ := heap4P hb2
    have f0 := heap_free hb2 0
    have f1 := heap_free hb2 1
    have f2 := heap_free hb2 2
    have f3 := heap_free hb2 3
    obtain ⟨Wz, hWz⟩ : ∃ x, (((w2.setCell ⟨w.heap.size, 0, none⟩ (intV k)).setCell ⟨w.heap.size, 1, none⟩ (sV n)).setCell ⟨w.heap.size, 2, none⟩ (sV v)).setCell ⟨w.heap.size, 3, none⟩ (intV 0) = x := ⟨_, rfl⟩
    have HSZ := Lib.hid (set4P hb2 (Nat.le_refl _) hWz)
    have HWZ := Lib.hid hWz
    clear hWz hb2
    go_wp2
    rw [HWZ.out]
    obtain ⟨z1, z2, z3⟩ := HSZ.out
    obtain ⟨d0, d1, d2, d3⟩ := heap4P z1
    refine bodyPost_ret (v := .tuple #[.agg #[intV k, sV n, sV v, intV 0], intV e]) (by simp [results, Tryz.results91, go_sem, d0, d1, d2, d3]) rfl ⟨?_, H2.out.trans z3⟩
    rfl
  · have hpre : ([60] : Bs).isPrefixOf p = false := by
      cases p with
      | nil => rfl
      | cons c l =>
        have : c ≠ 60 := by simpa using h6
        simp [List.isPrefixOf]; exact fun e => this e.symm
    have HP := Lib.hid (fun W => prefix_any p [60] false hpre W)
    obtain ⟨c, hc⟩ : ∃ c, chk p = c := ⟨_, rfl⟩
    have HC := Lib.hid (show ∀ W, Calls Tryz.prog 114 #[sV p] W fun e w' => e = .returned (.int .i64 c) ∧ Below W.heap.size W w' from fun W => by
      have := C01.check_any (baL p) (by rw [baL_size]; unfold maxLen; omega) W
      rw [baL_data, hc] at this
      exact this)
    have hX : readR p = if c ≠ 0 then ((0, [], []), 11) else ((1, [], p), 0) := by unfold readR; rw [if_neg h6, hc]
    rw [hX]
    clear hX hpre h6 hc
    by_cases hc0 : c = 0
    · have q0 : (c != 0) = false := by simp [hc0]
      rw [if_neg (by simp [hc0])]
      clear hc0
      go_enter Tryz.func91, Tryz.ntmps91
      go_upto_region 1 with fail
      rw [show w.alloc (.cells #[intV 0, .string ⟨#[]⟩, .string ⟨#[]⟩, intV 0] 52) = w0 from HW0.out]
      go_wp2_with fail
      refine (HP.out _).mono ?_
      rintro e' w1 ⟨rfl, rfl⟩
      go_wp2_with fail
      refine (HC.out _).mono ?_
      rintro e' w2 ⟨rfl, h2⟩
      have hb2 := (h2.block _ (by omega)).trans HBX.out
      have H2 := Lib.hid (HB0.out.trans (h2.mono (by omega)))
      clear h2
      obtain ⟨c0, c1, c2, c3⟩ := heap4P hb2
      have f0 := heap_free hb2 0
      have f1 := heap_free hb2 1
      have f2 := heap_free hb2 2
      have f3 := heap_free hb2 3
      obtain ⟨Wz, hWz⟩ : ∃ x, (((w2.setCell ⟨w.heap.size, 0, none⟩ (intV 1)).setCell ⟨w.heap.size, 1, none⟩ (.string ⟨#[]⟩)).setCell ⟨w.heap.size, 2, none⟩ (sV p)).setCell ⟨w.heap.size, 3, none⟩ (intV 0) = x := ⟨_, rfl⟩
      have HSZ := Lib.hid (set4P hb2 (Nat.le_refl _) hWz)
      have HWZ := Lib.hid hWz
      clear hWz hb2
      go_wp2
      rw [HWZ.out]
      obtain ⟨z1, z2, z3⟩ := HSZ.out
      obtain ⟨d0, d1, d2, d3⟩ := heap4P z1
      refine bodyPost_ret (v := .tuple #[.agg #[intV 1, .string ⟨#[]⟩, sV p, intV 0], intV 0]) (by simp [results, Tryz.results91, go_sem, d0, d1, d2, d3]) rfl ⟨?_, H2.out.trans z3⟩
      rfl
    · have q0 : (c != 0) = true := by simpa using hc0
      rw [if_pos hc0]
      clear hc0
      go_enter Tryz.func91, Tryz.ntmps91
      go_upto_region 1 with fail
      rw [show w.alloc (.cells #[intV 0, .string ⟨#[]⟩, .string ⟨#[]⟩, intV 0] 52) = w0 from HW0.out]
      go_wp2_with fail
      refine (HP.out _).mono ?_
      rintro e' w1 ⟨rfl, rfl⟩
      go_wp2_with fail
      refine (HC.out _).mono ?_
      rintro e' w2 ⟨rfl, h2⟩
      have hb2 := (h2.block _ (by omega)).trans HBX.out
      have H2 := Lib.hid (HB0.out.trans (h2.mono (by omega)))
      clear h2
      obtain ⟨c0, c1, c2, c3⟩ := heap4P hb2
      have f0 := heap_free hb2 0
      have f1 := heap_free hb2 1
      have f2 := heap_free hb2 2
      have f3 := heap_free hb2 3
      obtain ⟨Wz, hWz⟩ : ∃ x, (((w2.setCell ⟨w.heap.size, 0, none⟩ (intV 0)).setCell ⟨w.heap.size, 1, none⟩ (.string ⟨#[]⟩)).setCell ⟨w.heap.size, 2, none⟩ (.string ⟨#[]⟩)).setCell ⟨w.heap.size, 3, none⟩ (intV 0) = x := ⟨_, rfl⟩
      have HSZ := Lib.hid (set4P hb2 (Nat.le_refl _) hWz)
      have HWZ := Lib.hid hWz
      clear hWz hb2
      go_wp2
      rw [HWZ.out]
      obtain ⟨z1, z2, z3⟩ := HSZ.out
      obtain ⟨d0, d1, d2, d3⟩ := heap4P z1
      refine bodyPost_ret (v := .tuple #[.agg #[intV 0, .string ⟨#[]⟩, .string ⟨#[]⟩, intV 0], intV 11]) (by simp [results, Tryz.results91, go_sem, d0, d1, d2, d3]) rfl ⟨?_, H2.out.trans z3⟩
      rfl
end Go.Proofs.YtmfcepfagbkceaaGreatDoor
namespace Go.Proofs.YtmfcepfagbkceaaGreatDoor
set_option linter.unusedSimpArgs false
set_option linter.unusedVariables false
set_option maxRecDepth 100000
open Go.RowKit Go.Deep Go.Shelf
theorem wide_fnM (k : FuncId) : Fence.wide.fn k = True := rfl
attribute [local go_sem] Oper.semAt_some wide_fnM
abbrev encX (p : Lx × Int) : Array Value := #[.agg #[intV p.1.k, sV p.1.n, sV p.1.v, intV p.1.o], intV p.2]
def items (s : Bs) : List (Lx × Int) := itemsF s.length 0 s
theorem items_enough : ∀ (n m o : Nat) (l : Bs), l.length ≤ n → l.length ≤ m → itemsF n o l = itemsF m o l
  | 0, 0, _, _, _, _ => rfl
  | 0, _ + 1, _, [], _, _ => rfl
  | _ + 1, 0, _, [], _, _ => rfl
  | _ + 1, _ + 1, _, [], _, _ => rfl
  | 0, _ + 1, _, _ :: _, h, _ => by simp at h
  | _ + 1, 0, _, _ :: _, _, h => by simp at h
  | n + 1, m + 1, o, c :: t, hn, hm => by
    rw [itemsF, itemsF]
    have hp := part_pos c t
    rw [items_enough n m _ _ (by rw [List.length_drop]; simp at hn ⊢; omega) (by rw [List.length_drop]; simp at hm ⊢; omega)]
theorem items_len : ∀ (n o : Nat) (l : Bs), (itemsF n o l).length ≤ l.length
  | 0, _, _ => by simp [itemsF]
  | _ + 1, _, [] => by simp [itemsF]
  | n + 1, o, c :: t => by
    rw [itemsF, List.length_cons]
    have hp := part_pos c t
    have hq := part_le (c :: t)
    split
    · have := items_len n (o + (partOf (c :: t)).length) ((c :: t).drop (partOf (c :: t)).length)
      rw [List.length_drop] at this
      omega
    · simp
theorem items_step (s : Bs) (o : Nat) (h : o < s.length) : itemsF (s.length - o) o (s.drop o) =
    (⟨(readR (partOf (s.drop o))).1.1, (readR (partOf (s.drop o))).1.2.1, (readR (partOf (s.drop o))).1.2.2, o⟩, (readR (partOf (s.drop o))).2) ::
      (if (readR (partOf (s.drop o))).2 = 0 then itemsF (s.length - (o + (partOf (s.drop o)).length)) (o + (partOf (s.drop o)).length) (s.drop (o + (partOf (s.drop o)).length)) else []) := by
  obtain ⟨c, t, ht⟩ : ∃ c t, s.drop o = c :: t := by
    cases hh : s.drop o with
    | nil => have := congrArg List.length hh; rw [List.length_drop] at this; simp at this; omega
    | cons c t => exact ⟨c, t, rfl⟩
  have hl : (s.drop o).length = s.length - o := List.length_drop
  obtain ⟨f, hf⟩ : ∃ f, s.length - o = f + 1 := ⟨s.length - o - 1, by omega⟩
  have hp := part_pos c t
  have hq := part_le (c :: t)
  have hd : (c :: t).drop (partOf (c :: t)).length = s.drop (o + (partOf (s.drop o)).length) := by rw [← ht, List.drop_drop]
  rw [hf, ht, itemsF, hd, ht]
  rw [ht] at hl
  rw [items_enough f (s.length - (o + (partOf (c :: t)).length)) _ _ (by rw [List.length_drop]; omega) (by rw [List.length_drop]; omega)]
def KpX (n₀ B : Nat) (A C : World) : Prop := Below n₀ A C ∧ C.heap[B]? = A.heap[B]?
theorem KpX.refl (n₀ B : Nat) (A : World) : KpX n₀ B A A := ⟨Below.refl _ _, rfl⟩
theorem KpX.trans {n₀ B : Nat} {A C D : World} (h : KpX n₀ B A C) (k : KpX n₀ B C D) : KpX n₀ B A D := ⟨h.1.trans k.1, k.2.trans h.2⟩
theorem KpX.of_below {n₀ B : Nat} {A C : World} (h : Below A.heap.size A C) (hn : n₀ ≤ A.heap.size) (hB : B < A.heap.size) : KpX n₀ B A C := ⟨h.mono hn, h.block B hB⟩
theorem below_grownM {A B : World} (h : Below A.heap.size A B) : A.grownBy B none := ⟨h.os, h.tape, h.output, h.size, fun k hk _ => h.block k hk⟩
theorem KpX.cell {n₀ B : Nat} {A C : World} (h : KpX n₀ B A C) {v : Value} (hc : A.cell? ⟨B, 0, none⟩ = some v) : C.cell? ⟨B, 0, none⟩ = some v := by
  unfold World.cell? at hc ⊢
  rw [h.2]; exact hc
set_option maxRecDepth 100000 in
set_option maxHeartbeats 4000000 in
theorem lexemes1_in (l B : Nat) (w0 : World) [T w0] (s : Bs) (hs : s.length ≤ 65536) (J Jx : List (Lx × Int) → World → Prop) (hJ : ∀ p W W', J p W → Below W.heap.size W W' → J p W')
    (hY : ∀ pre x W, J pre W → pre.length < s.length → YieldAt Fence.wide 7 Tryz.prog l (encX x) W fun e W' =>
      (e = .returned (.bool true) ∧ J (pre ++ [x]) W' ∧ KpX w0.heap.size B W W') ∨ (e = .returned (.bool false) ∧ Jx (pre ++ [x]) W'))
    (W : World) [T W] (hn : w0.heap.size ≤ W.heap.size) (hc : W.cell? ⟨B, 0, none⟩ = some (sV s)) (h0 : J [] W) :
    CallsIn Fence.wide 8 Tryz.prog 89 #[.func (.yield l) #[] #[], .pointer (some ⟨B, 0, none⟩)] W fun e W' => (∃ v, e = .returned v) ∧
      ((∃ ys, ys = items s ∧ J ys W') ∨ (∃ pre, pre <+: items s ∧ Jx pre W')) := by
  have hsz : (baL s).size = s.length := baL_size s
  refine callsIn_of_wp Tryz.func89 rfl trivial ?_ rfl
  simp only [Tryz.ntmps89, List.size_toArray, List.length_cons, List.length_nil, Nat.reduceAdd, Nat.reduceSub, Array.replicate_succ, Array.replicate_zero, List.push_toArray, List.append_toArray, List.nil_append, List.cons_append]
  gi_wp2
  have HL := Lib.hid (items_len s.length 0 s)
  gi_loopw [3, 4] (fun ev av wr => ∃ (pre : List (Lx × Int)) (o : Nat) (z : Int), av = .int .i64 o ∧ ev = .int .i64 z ∧ o ≤ s.length ∧ items s = pre ++ itemsF (s.length - o) o (s.drop o) ∧ J pre wr ∧ KpX w0.heap.size B W wr)
    (fun _ av _ => s.length - (intOf av).toNat)
  case atStart => exact ⟨[], 0, 0, rfl, rfl, Nat.zero_le _, rfl, h0, KpX.refl _ _ _⟩
  case round =>
    obtain ⟨pre, o, z, rfl, rfl, ho, hx, hJ1, hK⟩ := hrel
    obtain ⟨wk, rfl⟩ : ∃ x, x = wr := ⟨_, rfl⟩
    have c1 := hK.cell hc
    have HX := Lib.hid hx
    have HJ1 := Lib.hid hJ1
    have HK := Lib.hid hK
    haveI tk : T wk := T.below (w0 := w0) hK.1
    clear hx hJ1
    by_cases hlt : o < s.length
    · have HIS := Lib.hid (items_step s o hlt)
      obtain ⟨q, hq⟩ : ∃ q, partOf (s.drop o) = q := ⟨_, rfl⟩
      have hpp : 0 < q.length := by
        obtain ⟨c, t, ht⟩ : ∃ c t, s.drop o = c :: t := by
          cases hh : s.drop o with
          | nil => have := congrArg List.length hh; rw [List.length_drop] at this; simp at this; omega
          | cons c t => exact ⟨c, t, rfl⟩
        rw [← hq, ht]; exact part_pos c t
      have hpl : o + q.length ≤ s.length := by
        have := part_le (s.drop o)
        rw [hq, List.length_drop] at this
        omega
      have hcut : (baL s).extract o s.length = baL (s.drop o) := by
        rw [baL_cut]
        congr 1
        exact List.take_of_length_le (by rw [List.length_drop]; omega)
      have HCUT := Lib.hid hcut
      have HFP := Lib.hid (fun W => firstPart_any (s.drop o) q hq (by rw [List.length_drop]; omega) W)
      have HRD := Lib.hid (fun (W : World) [T W] => read_any q (by omega) W)
      rw [hq] at HIS
      have hqz : (baL q).size = q.length := baL_size q
      obtain ⟨⟨⟨k, n, v⟩, e⟩, hr⟩ : ∃ x, readR q = x := ⟨_, rfl⟩
      rw [hr] at HRD HIS
      have g1 : decide ((o : Int) < (s.length : Int)) = true := decide_eq_true (by omega)
      have g2 : (0 : Int) ≤ (o : Int) := by omega
      have g3 : (o : Int) ≤ (s.length : Int) := by omega
      have hwk : IntKind.i64.wrap ((o : Int) + (q.length : Int)) = ((o + q.length : Nat) : Int) := by rw [show (o : Int) + (q.length : Int) = ((o + q.length : Nat) : Int) by omega]; exact IntWalk.i64_in _ (by omega)
      clear hq hcut hr
      gi_wp2_with fail
      rw [HCUT.out]
      refine (callsIn_wide.2 (HFP.out _)).mono ?_
      rintro e' w2 ⟨rfl, h2⟩
      have c2 := (h2.cell (p := ⟨B, 0, none⟩) (cellT_lt c1)).trans c1
      have H2 := Lib.hid h2
      haveI t2 : T w2 := T.below h2
      clear h2
      gi_wp2_with fail
      refine (callsIn_wide.2 (HRD.out _)).mono ?_
      rintro e' w3 ⟨rfl, h3⟩
      simp only
      have h4 : Below w3.heap.size w3 (lexW w3 k n v o) := below_alloc _ _
      have c3 := (h3.cell (p := ⟨B, 0, none⟩) (cellT_lt c2)).trans c2
      have HK4 := Lib.hid (HK.out.trans ((KpX.of_below H2.out (Nat.le_trans hn HK.out.1.size) (cellT_lt c1)).trans ((KpX.of_below h3 (Nat.le_trans hn (Nat.le_trans HK.out.1.size H2.out.size)) (cellT_lt c2)).trans (KpX.of_below h4 (Nat.le_trans hn (Nat.le_trans HK.out.1.size (Nat.le_trans H2.out.size h3.size))) (cellT_lt c3)))))
      have HJ4 := Lib.hid (hJ _ _ _ (hJ _ _ _ (hJ _ _ _ HJ1.out H2.out) h3) h4)
      clear h3 c2 h4 c3
      have hlen : pre.length < s.length := by
        have h1 := congrArg List.length HX.out
        rw [HIS.out, List.length_append, List.length_cons] at h1
        have h2 := HL.out
        have h3 : (items s).length = (itemsF s.length 0 s).length := rfl
        omega
      obtain ⟨fn, tmps, assign, body, hy, hR⟩ := hY pre (⟨k, n, v, o⟩, e) (lexW w3 k n v o) HJ4.out hlen
      dsimp only [encX] at hy
      have HR := Lib.hid hR
      clear hR hlen
      have HIT := Lib.hid (show items s = (pre ++ [(⟨k, n, v, o⟩, e)]) ++ (if e = 0 then itemsF (s.length - (o + q.length)) (o + q.length) (s.drop (o + q.length)) else []) by rw [HX.out, HIS.out, List.append_assoc]; rfl)
      by_cases he : e = 0
      · have he0 : (e != 0) = false := by simp [he]
        have HE := Lib.hid he
        clear he
        gi_wp2
        refine HR.out.mono ?_
        rintro e' W3 (⟨rfl, hJ3, hk3⟩ | ⟨rfl, hJx3⟩)
        · gi_wp2
          go_roundw
          case rel => exact ⟨_, o + q.length, _, by go_num, rfl, hpl, by rw [HIT.out, if_pos HE.out], hJ3, HK4.out.trans hk3⟩
          case measure => simp [intOf]; omega
        · gi_wp2
          refine bodyPost_ret (results_none rfl _ _ _) rfl ?_
          exact ⟨⟨_, rfl⟩, .inr ⟨_, ⟨_, HIT.out.symm⟩, hJx3⟩⟩
      · have he0 : (e != 0) = true := by simpa using he
        have HE := Lib.hid he
        clear he
        gi_wp2
        refine HR.out.mono ?_
        rintro e' W3 (⟨rfl, hJ3, hk3⟩ | ⟨rfl, hJx3⟩)
        · gi_wp2
          refine bodyPost_ret (results_none rfl _ _ _) rfl ?_
          refine ⟨⟨_, rfl⟩, .inl ⟨_, rfl, ?_⟩⟩
          rw [HIT.out, if_neg HE.out, List.append_nil]
          exact hJ3
        · gi_wp2
          refine bodyPost_ret (results_none rfl _ _ _) rfl ?_
          exact ⟨⟨_, rfl⟩, .inr ⟨_, ⟨_, HIT.out.symm⟩, hJx3⟩⟩
    · obtain rfl : o = s.length := by omega
      gi_wp2
      go_end0
      refine ⟨⟨_, rfl⟩, .inl ⟨_, rfl, ?_⟩⟩
      have hx := HX.out
      rw [Nat.sub_self, List.drop_length] at hx
      rw [hx, show itemsF 0 s.length [] = [] from rfl, List.append_nil]
      exact HJ1.out
set_option maxHeartbeats 400000 in
theorem lexemes_any (s : Bs) (w : World) :
    Calls Tryz.prog 66 #[sV s] w fun e w' => e = .returned (.func (.func 89) #[] #[.pointer (some ⟨w.heap.size, 0, none⟩)]) ∧ w' = w.alloc (.cells #[sV s] 9) := by
  go_enter Tryz.func66, Tryz.ntmps66
  go_wp2
  go_ret
  exact ⟨rfl, rfl⟩
theorem lexemes_stops (w0 : World) [T w0] (s : Bs) (hs : s.length ≤ 65536) (B : Nat) (w : World) [T w] (hn : w0.heap.size ≤ w.heap.size) (hc : w.cell? ⟨B, 0, none⟩ = some (sV s)) :
    SeqStopsK Fence.wide 8 Tryz.prog 89 #[.pointer (some ⟨B, 0, none⟩)] encX (KpX w0.heap.size B) (fun ys => ys = items s) (fun pre => pre <+: items s) s.length w := fun l J Jx W hW hJ _ hY h0 =>
  haveI : T W := T.below hW
  lexemes1_in l B w0 s hs J Jx (fun p A C h hB => hJ p A C none h (below_grownM hB) (fun r e => by cases e)) hY W (Nat.le_trans hn hW.size) ((hW.cell (p := ⟨B, 0, none⟩) (cellT_lt hc)).trans hc) h0
end Go.Proofs.YtmfcepfagbkceaaGreatDoor
namespace Go.Proofs.YtmfcepfagbkceaaGreatDoor
set_option linter.unusedSimpArgs false
set_option linter.unusedVariables false
set_option maxRecDepth 100000
open Go.RowKit Go.Deep Go.Shelf
attribute [local go_sem] Oper.semAt_some wide_fnM
def lastE (pre : List (Lx × Int)) : Int := match pre.getLast? with | some p => p.2 | none => 0
theorem lastE_snoc (pre : List (Lx × Int)) (p : Lx × Int) : lastE (pre ++ [p]) = p.2 := by unfold lastE; simp
theorem fold_ok : ∀ (l : List (Lx × Int)), (∀ p ∈ l, p.2 = 0) → foldR l = (l.map Prod.fst, 0)
  | [], _ => rfl
  | x :: r, h => by
    rw [foldR, if_pos (h x (by simp)), fold_ok r (fun p hp => h p (by simp [hp])), consR, if_pos rfl]; rfl
theorem fold_stop : ∀ (n o : Nat) (l : Bs) (pre : List (Lx × Int)), pre <+: itemsF n o l → lastE pre ≠ 0 → foldR (itemsF n o l) = ([], lastE pre)
  | 0, _, _, pre, hp, he => by
    rw [itemsF] at hp
    rw [List.prefix_nil.1 hp] at he
    exact absurd rfl he
  | _ + 1, _, [], pre, hp, he => by
    rw [itemsF] at hp
    rw [List.prefix_nil.1 hp] at he
    exact absurd rfl he
  | n + 1, o, c :: t, pre, hp, he => by
    rw [itemsF] at hp ⊢
    cases pre with
    | nil => exact absurd rfl he
    | cons x pre =>
      rw [List.cons_prefix_cons] at hp
      obtain ⟨hx, hp⟩ := hp
      rw [foldR]
      by_cases h0 : (readR (partOf (c :: t))).2 = 0
      · rw [if_pos h0] at hp
        rw [if_pos h0, if_pos h0]
        have hl : lastE (x :: pre) = lastE pre := by
          cases pre with
          | nil => exfalso; rw [hx] at he; exact he h0
          | cons y r => unfold lastE; rw [List.getLast?_cons_cons]
        rw [hl] at he ⊢
        rw [fold_stop n _ _ pre hp he, consR, if_neg he]
      · rw [if_neg h0] at hp
        rw [List.prefix_nil.1 hp] at he ⊢
        simp only [h0, if_false]
        have : lastE [x] = x.2 := by unfold lastE; simp
        rw [this, hx]
theorem scan_big {s : Bs} (h : 65536 < s.length) : scanR s = ([], 4) := by unfold scanR; rw [if_pos h]
theorem scan_fold {s : Bs} (h : ¬ 65536 < s.length) : scanR s = foldR (items s) := by
  unfold scanR items
  rw [if_neg h, items_scan _ _ _ (by omega)]
theorem fin_cellM {W : World} {D B : Nat} {t : TypeId} {v : Value} (hb : Boxed W B t v) (hK : W.heap[D]? = some (.deferred (some []))) : (W.putObj D (.deferred none)).cell? ⟨B, 0, none⟩ = some v :=
  cell_kept hb.cell (grownBy_putObj' _ D (.deferred none)) (fun r e => by cases e; exact ⟨_, hK, rfl⟩)
theorem fin_storeM {W : World} {D B : Nat} (v : Value) (hK : W.heap[D]? = some (.deferred (some []))) : (W.setCell ⟨B, 0, none⟩ v).heap[D]? = some (.deferred (some [])) :=
  (KeepsOthers.setCell W ⟨B, 0, none⟩ v).same D _ hK rfl
theorem fin_belowM {w W0 W : World} {n D : Nat} (hB : Below n w W) (hn : n ≤ W0.heap.size) (hD : W0.heap.size ≤ D) (hK : W.heap[D]? = some (.deferred (some []))) : Below n w (W.putObj D (.deferred none)) :=
  hB.trans (belowK_b (w := W0) hn W D _ _ hD hK rfl rfl)
theorem heap_pushM (w : World) (o : Obj) : (w.alloc o).heap = w.heap.push o := rfl
theorem blocks4 (w : World) (o0 o1 o2 o3 : Obj) {W : World} (hW : (((w.alloc o0).alloc o1).alloc o2).alloc o3 = W) :
    W.heap.size = w.heap.size + 4 ∧ W.heap[w.heap.size]? = some o0 ∧ W.heap[w.heap.size + 1]? = some o1 ∧ W.heap[w.heap.size + 1 + 1]? = some o2 ∧ W.heap[w.heap.size + 1 + 1 + 1]? = some o3 ∧ Below w.heap.size w W := by
  subst hW
  have hp : ∀ (A : Array Obj) (o : Obj) (i : Nat), (A.push o)[i]? = if i = A.size then some o else A[i]? := fun A o i => by rw [Array.getElem?_push]
  refine ⟨by simp, ?_, ?_, ?_, ?_, ?_⟩
  iterate 4
    · simp only [heap_pushM, hp, Array.size_push]
      repeat (first | rw [if_pos trivial] | rw [if_neg (by omega)])
  · exact ((((Below.refl _ w).alloc (Nat.le_refl _) _).alloc (by simp) _).alloc (by simp; omega) _).alloc (by simp; omega) _
theorem ty_sl : (47 : TypeId) ≠ 52 := by decide
theorem ty_st : (9 : TypeId) ≠ 52 := by decide
theorem ty_er : (25 : TypeId) ≠ 52 := by decide
abbrev cellsIt (pre : List (Lx × Int)) : List Value := (pre.map Prod.fst).flatMap cellsX
set_option maxHeartbeats 1000000 in
theorem scanBig_any (s : Bs) (h : 65536 < s.length) (hs : s.length ≤ maxLen) (w : World) :
    Calls Tryz.prog 34 #[sV s] w (LexPost (scanR s) w) := by
  have hsz : (baL s).size = s.length := baL_size s
  have hd : decide ((65536 : Int) < (s.length : Int)) = true := decide_eq_true (by omega)
  rw [scan_big h]
  unfold maxLen at hs
  clear h
  go_enter Tryz.func34, Tryz.ntmps34
  go_wp2
  refine bodyPost_ret (v := .tuple #[.slice none 0 0, intV 4]) (by simp [results, Tryz.results34, go_sem]) rfl ⟨_, rfl, LexAt.empty _ _ _, ?_⟩
  exact ((Below.refl _ w).alloc (Nat.le_refl _) _).alloc (by simp) _
set_option maxHeartbeats 4000000 in
theorem scanFew_any (s : Bs) (h : ¬ 65536 < s.length) (w : World) [T w] :
    Calls Tryz.prog 34 #[sV s] w (LexPost (scanR s) w) := by
  have hsz : (baL s).size = s.length := baL_size s
  have hd : decide ((65536 : Int) < (s.length : Int)) = false := decide_eq_false (by omega)
  have HSF := Lib.hid (scan_fold h)
  obtain ⟨i0, hi, hz0, hz1, hz2⟩ := info_parts info_lx
  refine (callsIn_wide (n := 9)).1 ?_
  refine callsIn_of_wp_marks Tryz.func34 rfl trivial ?_ rfl
  simp only [Tryz.ntmps34, List.size_toArray, List.length_cons, List.length_nil, Nat.reduceAdd, Nat.reduceSub, Array.replicate_succ, Array.replicate_zero, List.push_toArray, List.append_toArray, List.nil_append, List.cons_append]
  gi_wp2_with (gi_at_call 66; refine (callsIn_wide.2 (lexemes_any _ _)).mono ?_; rintro e w' ⟨rfl, rfl⟩)
  obtain ⟨w6, hw6⟩ : ∃ X, (((w.alloc (.cells #[.slice none 0 0] 47)).alloc (.cells #[.int .i64 0] 25)).alloc (.cells #[.slice none 0 0] 47)).alloc (.cells #[sV s] 9) = X := ⟨_, rfl⟩
  rw [hw6]
  obtain ⟨s6, k0, k1, k2, k3, kb⟩ := blocks4 w _ _ _ _ hw6
  clear hw6
  haveI : T w6 := T.below kb
  have HSTOP := lexemes_stops w s (by omega) (w.heap.size + 1 + 1 + 1) w6 (by omega) (Boxed.cell k3)
  refine wpIn_rangeFunc_ownH rfl (by omega) (gf := 89) (lb := #[.pointer (some ⟨w.heap.size + 1 + 1 + 1, 0, none⟩)]) rfl trivial Tryz.call89
    HSTOP (fun h k => h.trans k) (fun W l o o' hl ho hc _ => ⟨belowK_b (w := w6) (by omega) W l o o' hl ho hc (by assumption), World.putObj_heap_other (by omega)⟩) (Below.refl _ _) (fun _ => rfl)
    (fun pre W => (Boxed W w.heap.size 47 (.slice none 0 0) ∧ Boxed W (w.heap.size + 1) 25 (.int .i64 0) ∧ (∃ v, Boxed W (w.heap.size + 1 + 1) 47 v ∧ W.ownsRow w.heap.size 52 4 v pre.length (cellsIt pre) ∧ (v = .slice none 0 0 ↔ pre = [])) ∧ Boxed W (w.heap.size + 1 + 1 + 1) 9 (sV s) ∧ ∀ p ∈ pre, p.2 = 0) ∧ Below w.heap.size w6 W)
    (fun c pre W => (Boxed W w.heap.size 47 (.slice none 0 0) ∧ Boxed W (w.heap.size + 1) 25 (intV (lastE pre)) ∧ c = .ret ∧ lastE pre ≠ 0) ∧ Below w.heap.size w6 W)
    (OwnFrom.and (OwnFrom.and (Own.from (boxed_own _ _ _) _) (OwnFrom.and (Own.from (boxed_own _ _ _) _) (OwnFrom.and (Own.from (holdsRow_own w.heap.size (w.heap.size + 1 + 1) 47 52 4 (fun pre => pre.length) (fun pre => cellsIt pre) (fun pre v => v = .slice none 0 0 ↔ pre = [])) _) (OwnFrom.and (Own.from (boxed_own _ _ _) _) (ownFrom_pure _ _))))) (ownFrom_below (by omega) (by omega)))
    (fun c => OwnFrom.and (OwnFrom.and (Own.from (boxed_own _ _ _) _) (OwnFrom.and (Own.from (boxed_own _ _ _) _) (ownFrom_pure _ _))) (ownFrom_below (by omega) (by omega)))
    ⟨⟨k0, k1, ⟨_, k2, World.ownsRow_nil _ _ _ _, by simp⟩, k3, by simp⟩, Below.refl _ _⟩
    (fun p a' X => ∃ B7 : Nat, w6.heap.size ≤ B7 ∧ X.heap[B7]? = some (.cells #[intV p.1.k, sV p.1.n, sV p.1.v, intV p.1.o] 52 (0, 0)) ∧ a' = { tmps := #[sV s, undef, .pointer (some ⟨w.heap.size, 0, none⟩), .pointer (some ⟨w.heap.size + 1, 0, none⟩), .pointer (some ⟨w.heap.size + 1 + 1, 0, none⟩), .pointer (some ⟨B7, 0, none⟩), intV p.2, sV s, .int .i64 s.length, .bool false, sV s, .func (.func 89) #[] #[.pointer (some ⟨w.heap.size + 1 + 1 + 1, 0, none⟩)], .agg #[intV p.1.k, sV p.1.n, sV p.1.v, intV p.1.o], intV p.2, undef, undef, undef, undef, undef, undef, undef, undef], defers := [] })
    (fun p a' _ X Y row h hg hr => by
      obtain ⟨B7, h1, h2, h3⟩ := h
      exact ⟨B7, h1, (hg.block B7 (Array.getElem?_eq_some_iff.1 h2).1 (fun e => by obtain ⟨_, o, ho, hc⟩ := hr B7 e.symm; rw [h2] at ho; cases ho; cases hc)).trans h2, h3⟩)
    ?assign ?body ?done ?stop
  case assign =>
    intro l pre p X K hI hK
    have hX := hI.2.size
    gi_wp2
    obtain ⟨v, b1, b2, b3⟩ := hI.1.2.2.1
    exact hK _ _ ((KeepsOthers.alloc X _).from _) ⟨(Below.refl _ X).alloc (by omega) _, Below.heap_alloc _ _ _ (by omega)⟩ ⟨⟨hI.1.1.alloc _, hI.1.2.1.alloc _, ⟨v, b1.alloc _, b2.alloc _, b3⟩, hI.1.2.2.2.1.alloc _, hI.1.2.2.2.2⟩, hI.2.alloc (by omega) _⟩ ⟨X.heap.size, hX, World.alloc_heap_new _ _, rfl⟩
  case body =>
    rintro l pre p a' X hl hrec ⟨⟨b1, b2, ⟨v, b3, hrow, hnil⟩, b4, hok⟩, hB⟩ ⟨B7, hB7, hk7, rfl⟩ hlen
    have hX := hB.size
    have c1 := b1.cell
    have f1 := b1.frozen
    have c2 := b2.cell
    have f2 := b2.frozen
    have c3 := b3.cell
    have f3 := b3.frozen
    obtain ⟨q0, q1, q2, q3⟩ := heap4P hk7
    have HI := Lib.hid (And.intro b1 (And.intro b2 (And.intro b4 hB)))
    have HOK := Lib.hid (And.intro hok hlen)
    have HLS := Lib.hid (lastE_snoc pre p)
    by_cases he : p.2 = 0
    · have he0 : (p.2 != 0) = false := by simp [he]
      have HE := Lib.hid he
      have HROW := Lib.hid hrow
      have HB3 := Lib.hid b3
      have hcs : cellsIt (pre ++ [p]) = cellsIt pre ++ [p.1].flatMap cellsX := by simp [cellsIt]
      have HCS := Lib.hid hcs
      have HNW := Lib.hid (fun cap => LexAt.news (LexAt.of_block (cap := cap) (L := [p.1]) (World.alloc_heap_new X (.cells #[intV p.1.k, sV p.1.n, sV p.1.v, intV p.1.o] 52)) (by simp [cellsX])))
      have hln : pre.length < 65536 := by omega
      clear he b1 b2 b3 b4 hok hlen hrow hnil hcs hk7 hrec
      gi_wp2_with (gi_at_builtin; refine wpListIn_append_own _ rfl _ _ 47 rfl w.heap.size 52 i0 _ 4 48 Tryz.underlying47 hi hz0 hz1 hz2 rfl (by decide) v pre.length (cellsIt pre) rfl (HROW.out.alloc _) ⟨X.heap.size, 0, none⟩ 1 1 ([p.1].flatMap cellsX) rfl (by simp [cellsX]) (HNW.out 1) (flatX_one [p.1]) (by unfold maxLen; omega) (by omega) (by have := HI.out.2.2.2.size; simp; omega) ?_)
      intro v' w1 hown' hgrow _
      obtain ⟨g', cap', rfl⟩ := ownsRow_succ hown'
      obtain ⟨hv1, hv2, hr2, hk2, hb2⟩ := HB3.out.appended ty_sl HROW.out (by omega) (by omega) hown' hgrow
      have hc1 := hv1.cell
      have hf1 := hv1.frozen
      obtain ⟨b1, b2, b4, hB⟩ := HI.out
      have d1 := ((b1.alloc _).kept hgrow (b1.not_row ty_sl HROW.out)).other (B' := w.heap.size + 1 + 1) (by omega) (.slice (some ⟨g', 0, none⟩) (pre.length + 1) cap')
      have d2 := ((b2.alloc _).kept hgrow (b2.not_row ty_er HROW.out)).other (B' := w.heap.size + 1 + 1) (by omega) (.slice (some ⟨g', 0, none⟩) (pre.length + 1) cap')
      have d4 := ((b4.alloc _).kept hgrow (b4.not_row ty_st HROW.out)).other (B' := w.heap.size + 1 + 1) (by omega) (.slice (some ⟨g', 0, none⟩) (pre.length + 1) cap')
      have HD := Lib.hid (And.intro d1 (And.intro d2 d4))
      have HF := Lib.hid (And.intro hv2 (And.intro hr2 (And.intro hk2 (And.intro hb2 (And.intro b4 hB)))))
      clear hown' hgrow hv2 hr2 hk2 hb2 d1 d2 d4 b1 b2 b4 hB hv1
      gi_wp2
      obtain ⟨d1, d2, d4⟩ := HD.out
      obtain ⟨hv2, hr2, hk2, hb2, b4, hB⟩ := HF.out
      refine ⟨hk2.from _, ⟨hb2, d4.trans b4.symm⟩, ⟨d1, d2, ⟨_, hv2, ?_, by simp⟩, d4, fun q hq => ?_⟩, hB.trans hb2⟩
      · rw [HCS.out, List.length_append]; exact hr2
      · rcases List.mem_append.1 hq with hq | hq
        · exact HOK.out.1 q hq
        · rw [List.mem_singleton] at hq; subst hq; exact HE.out
    · have he0 : (p.2 != 0) = true := by simpa using he
      have HE := Lib.hid he
      clear he b1 b2 b3 b4 hok hlen hrow hnil hB hk7 hrec
      gi_wp2
      obtain ⟨b1, b2, b4, hB⟩ := HI.out
      refine ⟨((KeepsOthers.setCell _ _ _).trans (KeepsOthers.setCell _ _ _)).from _, ⟨(b1.set _).other (by omega) _, ?_, rfl, by rw [HLS.out]; exact HE.out⟩, (hB.setCell (p := ⟨_, 0, none⟩) (by simp) _).setCell (p := ⟨_, 0, none⟩) (by simp) _⟩
      rw [HLS.out]
      exact (b2.other (by omega) _).set _
  case done =>
    rintro D xs W hD hxs ⟨⟨b1, b2, ⟨v, b3, hrow, hnil⟩, b4, hok⟩, hB⟩ hK
    have c1 := b1.cell
    have f1 := b1.frozen
    have c2 := b2.cell
    have f2 := b2.frozen
    have c3 := b3.cell
    have HI := Lib.hid (And.intro b1 (And.intro b2 (And.intro hrow (And.intro hok hB))))
    have HKD := Lib.hid hK
    have hvs : ∃ a n c, v = .slice a n c := by
      rcases hrow.2 with ⟨rfl, _⟩ | ⟨g, cap, cur, rfl, _⟩
      · exact ⟨_, _, _, rfl⟩
      · exact ⟨_, _, _, rfl⟩
    obtain ⟨va, vn, vc, rfl⟩ := hvs
    clear b1 b2 b3 b4 hrow hok hB hK hnil
    gi_wp2
    obtain ⟨b1, b2, hrow, hok, hB⟩ := HI.out
    have hb' := (b1.set (.slice va vn vc)).other (B' := w.heap.size + 1) (by omega) (.int .i64 0)
    have hb2' := (b2.other (B' := w.heap.size) (by omega) (.slice va vn vc)).set (.int .i64 0)
    have hK' := fin_storeM (B := w.heap.size + 1) (.int .i64 0) (fin_storeM (B := w.heap.size) (.slice va vn vc) HKD.out)
    have hc5 := fin_cellM hb' hK'
    have hc6 := fin_cellM hb2' hK'
    refine ⟨by simp, .inl ⟨_, _, rfl, run_takeDeferred hK', ?_⟩⟩
    refine ⟨.tuple #[.slice va vn vc, intV 0], by simp [results, Tryz.f34, go_sem, hc5, hc6], ?_⟩
    rw [HSF.out, ← hxs, fold_ok xs hok]
    refine ⟨_, rfl, ?_, fin_belowM (W0 := w6) (kb.trans ((hB.setCell (p := ⟨_, 0, none⟩) (by simp) _).setCell (p := ⟨_, 0, none⟩) (by simp) _)) (by omega) hD hK'⟩
    have r1 := hrow.kept (grownBy_setCell' W w.heap.size (.slice va vn vc)) (.inr (b1.not_row ty_sl hrow).symm)
    have b3' := b2.other (B' := w.heap.size) (by omega) (.slice va vn vc)
    have r2 := r1.kept (grownBy_setCell' _ (w.heap.size + 1) (.int .i64 0)) (.inr (b3'.not_row ty_er r1).symm)
    have r3 := ownsRow_putObj r2 (.deferred none) hK' rfl
    exact LexAt.of_own (L := xs.map Prod.fst) r3
  case stop =>
    rintro D c pre W hD hpre ⟨⟨b1, b2, rfl, hne⟩, hB⟩ hK
    have HI := Lib.hid (And.intro b1 (And.intro b2 hB))
    have HKD := Lib.hid hK
    clear b1 b2 hB hK
    gi_wp2
    obtain ⟨b1, b2, hB⟩ := HI.out
    have hc5 := fin_cellM b1 HKD.out
    have hc6 := fin_cellM b2 HKD.out
    refine ⟨by simp, .inl ⟨_, _, rfl, run_takeDeferred HKD.out, ?_⟩⟩
    refine ⟨.tuple #[.slice none 0 0, intV (lastE pre)], by simp [results, Tryz.f34, go_sem, hc5, hc6], ?_⟩
    rw [HSF.out, items, fold_stop _ _ _ pre hpre hne]
    exact ⟨_, rfl, LexAt.empty _ _ _, fin_belowM (W0 := w6) (kb.trans hB) (by omega) hD HKD.out⟩
theorem scan_any (s : Bs) (hs : s.length ≤ maxLen) (w : World) [T w] : Calls Tryz.prog 34 #[sV s] w (LexPost (scanR s) w) := by
  by_cases h : 65536 < s.length
  · exact scanBig_any s h hs w
  · exact scanFew_any s h w
end Go.Proofs.YtmfcepfagbkceaaGreatDoor
