/- The program of layer 9: firstPart, readTag, read. -/
import Derived.Test.YtdgihkgomfpmoaaGreatDoorMkPC
namespace Go.Proofs.YtdgihkgomfpmoaaGreatDoor
set_option linter.unusedSimpArgs false
set_option linter.unusedVariables false
set_option maxRecDepth 100000
open Go.RowKit Go.Deep

set_option maxHeartbeats 1000000 in
theorem firstPart_any (s t : Bs) (h : partOf s = t) (hs : s.length ≤ 65536) (w : World) :
    Calls Tryz.prog 37 #[sV s] w fun e w' => e = .returned (sV t) ∧ Below w.heap.size w w' := by
  have hsz : (baL s).size = s.length := baL_size s
  unfold partOf at h
  by_cases h6 : s.head? = some 60
  · rw [if_pos h6] at h
    have hp : ([60] : Bs).isPrefixOf s = true := by
      cases s with
      | nil => cases h6
      | cons c l =>
        have : c = 60 := by simpa using h6
        subst this; rfl
    have HP := Lib.hid (fun W => prefix_any s [60] true hp W)
    have hi := idx_tw 62 s
    have e62 : (fun x : UInt8 => decide (x ≠ 62)) = not62 := rfl
    rw [e62] at hi
    by_cases hd : s.dropWhile not62 = []
    · rw [if_pos hd] at hi h
      have HI := Lib.hid (fun W => index_one s 62 (-1) hi W)
      subst h
      clear hi hd hp h6
      go_enter Tryz.func37, Tryz.ntmps37
      go_wp2_with fail
      refine (HP.out _).mono ?_
      rintro e w1 ⟨rfl, rfl⟩
      go_wp2_with fail
      refine (HI.out _).mono ?_
      rintro e w1 ⟨rfl, rfl⟩
      go_wp2
      go_ret
      exact ⟨rfl, Below.refl _ _⟩
    · rw [if_neg hd] at hi h
      have HI := Lib.hid (fun W => index_one s 62 _ hi W)
      have hlt : (s.takeWhile not62).length < s.length := by
        have := List.takeWhile_append_dropWhile (p := not62) (l := s)
        have h2 := congrArg List.length this
        rw [List.length_append] at h2
        have h3 := List.length_pos_iff.2 hd
        omega
      have hcut : (baL s).extract 0 ((s.takeWhile not62).length + 1) = baL t := by
        rw [baL_cut, List.drop_zero, Nat.sub_zero]
        congr 1
        have e1 := List.takeWhile_append_dropWhile (p := not62) (l := s)
        obtain ⟨c, r, hr⟩ : ∃ c r, s.dropWhile not62 = c :: r := by
          cases hh : s.dropWhile not62 with
          | nil => exact absurd hh hd
          | cons c r => exact ⟨c, r, rfl⟩
        have hc := dw_head s hr
        have hc : c = 62 := by unfold not62 at hc; simpa using hc
        rw [hr, hc] at e1
        have e2 : s = (s.takeWhile not62 ++ [62]) ++ r := by rw [List.append_assoc]; exact e1.symm
        rw [← h]
        have e3 : (s.takeWhile not62).length + 1 = (s.takeWhile not62 ++ [62]).length := by simp
        rw [e3]
        conv => lhs; arg 2; rw [e2]
        exact List.take_left
      have HC := Lib.hid hcut
      obtain ⟨n, hn⟩ : ∃ n, (s.takeWhile not62).length = n := ⟨_, rfl⟩
      rw [hn] at hlt HI HC
      have g0 : decide ((n : Int) < 0) = false := decide_eq_false (by omega)
      obtain ⟨m, hm⟩ : ∃ m, n + 1 = m := ⟨_, rfl⟩
      have hwk : IntKind.i64.wrap ((n : Int) + 1) = (m : Int) := by rw [show (n : Int) + 1 = ((n + 1 : Nat) : Int) by omega, ← hm]; exact IntWalk.i64_in _ (by omega)
      have g1 : (0 : Int) ≤ (m : Int) := by omega
      have g2 : (m : Int) ≤ (s.length : Int) := by omega
      rw [hm] at HC
      clear hi hd hp h6 h hcut hn hm
      go_enter Tryz.func37, Tryz.ntmps37
      go_wp2_with fail
      refine (HP.out _).mono ?_
      rintro e w1 ⟨rfl, rfl⟩
      go_wp2_with fail
      refine (HI.out _).mono ?_
      rintro e w1 ⟨rfl, rfl⟩
      go_wp2
      go_ret
      exact ⟨by rw [show sV t = .string (baL t) from rfl, ← HC.out]; rfl, Below.refl _ _⟩
  · rw [if_neg h6] at h
    have hp : ([60] : Bs).isPrefixOf s = false := by
      cases s with
      | nil => rfl
      | cons c l =>
        have : c ≠ 60 := by simpa using h6
        simp [List.isPrefixOf]; exact fun e => this e.symm
    have HP := Lib.hid (fun W => prefix_any s [60] false hp W)
    have e60 : (fun x : UInt8 => decide (x ≠ 60)) = not60 := rfl
    have HC := Lib.hid (fun W => cut_any s 60 (by unfold maxLen; omega) t (by rw [e60]; exact h) W)
    clear h hp h6
    go_enter Tryz.func37, Tryz.ntmps37
    go_wp2_with fail
    refine (HP.out _).mono ?_
    rintro e w1 ⟨rfl, rfl⟩
    go_wp2_with fail
    refine (HC.out _).mono ?_
    rintro e w2 ⟨⟨r, f, rfl⟩, h2⟩
    go_wp2
    go_ret
    exact ⟨rfl, h2⟩
def ktR (p : Bs) : Int := if ([60, 47] : Bs).isPrefixOf p then 3 else if ([47, 62] : Bs).isSuffixOf p then 4 else 2
set_option maxHeartbeats 400000 in
theorem kindOf_any (p : Bs) (k : Int) (hk : ktR p = k) (hp : p.length ≤ 65536) (w : World) :
    Calls Tryz.prog 74 #[sV p] w fun e w' => e = .returned (intV k) ∧ w' = w := by
  unfold ktR at hk
  cases h1 : ([60, 47] : Bs).isPrefixOf p
  · rw [h1] at hk
    have H1 := Lib.hid (fun W => prefix_any p [60, 47] false h1 W)
    cases h2 : ([47, 62] : Bs).isSuffixOf p
    · rw [h2] at hk
      have H2 := Lib.hid (fun W => suffix_any p [47, 62] false h2 (by unfold maxLen; omega) W)
      have hk : (2 : Int) = k := hk
      subst hk
      clear h1 h2
      go_enter Tryz.func74, Tryz.ntmps74
      go_wp2_with fail
      refine (H1.out _).mono ?_
      rintro e w1 ⟨rfl, rfl⟩
      go_wp2_with fail
      refine (H2.out _).mono ?_
      rintro e w1 ⟨rfl, rfl⟩
      go_wp2
      go_ret
      exact ⟨rfl, rfl⟩
    · rw [h2] at hk
      have H2 := Lib.hid (fun W => suffix_any p [47, 62] true h2 (by unfold maxLen; omega) W)
      have hk : (4 : Int) = k := hk
      subst hk
      clear h1 h2
      go_enter Tryz.func74, Tryz.ntmps74
      go_wp2_with fail
      refine (H1.out _).mono ?_
      rintro e w1 ⟨rfl, rfl⟩
      go_wp2_with fail
      refine (H2.out _).mono ?_
      rintro e w1 ⟨rfl, rfl⟩
      go_wp2
      go_ret
      exact ⟨rfl, rfl⟩
  · rw [h1] at hk
    have H1 := Lib.hid (fun W => prefix_any p [60, 47] true h1 W)
    have hk : (3 : Int) = k := hk
    subst hk
    clear h1
    go_enter Tryz.func74, Tryz.ntmps74
    go_wp2_with fail
    refine (H1.out _).mono ?_
    rintro e w1 ⟨rfl, rfl⟩
    go_wp2
    go_ret
    exact ⟨rfl, rfl⟩
theorem kt_pk (m : Bs) : ktR (60 :: (m ++ [62])) = pkOf m := by
  unfold ktR pkOf
  have h1 : ([60, 47] : Bs).isPrefixOf (60 :: (m ++ [62])) = decide (m.head? = some 47) := by
    cases m with
    | nil => rfl
    | cons c t => rw [Bool.eq_iff_iff]; simp [List.isPrefixOf]; exact eq_comm
  have h2 : ([47, 62] : Bs).isSuffixOf (60 :: (m ++ [62])) = decide (m.getLast? = some 47) := by
    rw [Bool.eq_iff_iff, List.isSuffixOf_iff_suffix, decide_eq_true_eq]
    constructor
    · rintro ⟨t, ht⟩
      have h3 : 60 :: (m ++ [62]) = (60 :: m) ++ [62] := rfl
      have h4 : t ++ [47, 62] = (t ++ [47]) ++ [62] := by simp
      rw [h3, h4] at ht
      have h5 := List.append_cancel_right ht
      cases m with
      | nil =>
        have := congrArg List.getLast? h5
        simp at this
      | cons c l =>
        have := congrArg List.getLast? h5
        rw [List.getLast?_append] at this
        simp at this
        rw [this]
    · intro h
      obtain ⟨a, ha⟩ : ∃ a, m = a ++ [47] := by
        have hne : m ≠ [] := by rintro rfl; cases h
        refine ⟨m.dropLast, ?_⟩
        have := List.dropLast_concat_getLast hne
        rw [List.getLast?_eq_some_getLast hne, Option.some.injEq] at h
        rw [h] at this
        exact this.symm
      exact ⟨60 :: a, by rw [ha]; simp⟩
  rw [h1, h2]
  simp only [decide_eq_true_eq]
theorem ct_good {k : Int} {n v : Bs} (hk : k = 2 ∨ k = 3 ∨ k = 4) : ctR k n v = 0 ↔ goodT k n v = true := by
  unfold ctR goodT
  rcases hk with rfl | rfl | rfl
  · cases isTag n <;> cases emptyT n <;> cases rightB n v <;> simp
  · cases isTag n <;> cases emptyT n <;> by_cases h : v = [] <;> simp [h]
  · cases isTag n <;> cases emptyT n <;> cases rightB n v <;> simp
theorem pk_three (m : Bs) : pkOf m = 2 ∨ pkOf m = 3 ∨ pkOf m = 4 := by
  by_cases h1 : m.head? = some 47
  · unfold pkOf; simp [h1]
  · by_cases h2 : m.getLast? = some 47 <;> (unfold pkOf; simp [h1, h2])
/-- what stands between the start and the end of a tag -/
theorem pin_cut (m : Bs) : (baL (60 :: (m ++ [62]))).extract (if pkOf m = 3 then [60, 47] else [60] : Bs).length ((60 :: (m ++ [62]) : Bs).length - (if pkOf m = 4 then [47, 62] else [62] : Bs).length) = baL (pin m) := by
  rw [baL_cut]
  congr 1
  unfold pin pkOf
  by_cases h1 : m.head? = some 47
  · obtain ⟨t, rfl⟩ : ∃ t, m = 47 :: t := by
      cases m with
      | nil => cases h1
      | cons c t => exact ⟨t, by rw [show c = 47 by simpa using h1]⟩
    simp
  · rw [if_neg h1, if_neg h1]
    by_cases h2 : m.getLast? = some 47
    · obtain ⟨a, rfl⟩ : ∃ a, m = a ++ [47] := by
        have hne : m ≠ [] := by rintro rfl; cases h2
        refine ⟨m.dropLast, ?_⟩
        have := List.dropLast_concat_getLast hne
        rw [List.getLast?_eq_some_getLast hne, Option.some.injEq] at h2
        rw [h2] at this
        exact this.symm
      simp
    · simp [h2]
/-- what readTag and read give -/
def ReadP (x : (Int × Bs × Bs) × Int) (w : World) (e : Ending) (w' : World) : Prop := e = .returned (.tuple #[.agg #[intV x.1.1, sV x.1.2.1, sV x.1.2.2, intV 0], intV x.2]) ∧ Below w.heap.size w w'
abbrev lexW (w : World) (k : Int) (n v : Bs) (o : Int) : World := w.alloc (.cells #[intV k, sV n, sV v, intV o] 41)
theorem tag_le {n : Bs} (h : isTag n = true) : n.length ≤ 7 := by
  unfold isTag tagsL at h
  simp only [List.contains_cons, List.contains_nil, Bool.or_false, Bool.or_eq_true, beq_iff_eq] at h
  rcases h with rfl | rfl | rfl | rfl | rfl | rfl | rfl | rfl | rfl | rfl <;> decide
theorem ptag_no {m : Bs} (h : isTag (pnm m) = false) : ptagR m = ((0, [], []), 12) := by unfold ptagR; rw [h]; rfl
theorem ptag_bad {m : Bs} (h : isTag (pnm m) = true) (hc : ctR (pkOf m) (pnm m) (pvl m) ≠ 0) : ptagR m = ((0, [], []), 3) := by
  unfold ptagR
  rw [if_pos h, if_neg (fun q => hc ((ct_good (pk_three m)).2 q.1))]
theorem ct_close {k : Int} {n v : Bs} (h : ctR k n v = 0) (hk : k = 3) : v = [] := by
  subst hk
  unfold ctR at h
  split at h
  · cases h
  · by_cases hv : v = []
    · exact hv
    · rw [if_pos rfl, decide_eq_false hv] at h
      cases h
theorem ptag_ok {m : Bs} (h : isTag (pnm m) = true) (hc : ctR (pkOf m) (pnm m) (pvl m) = 0) : ptagR m = if wrF (pkOf m) (pnm m) (pvl m) = 60 :: (m ++ [62]) then ((pkOf m, pnm m, pvl m), 0) else ((0, [], []), 3) := by
  unfold ptagR
  rw [if_pos h, wr_form (by have := pk_three m; omega) (ct_close hc)]
  have hg := (ct_good (pk_three m)).1 hc
  by_cases hw : formF (pkOf m) (pnm m) (pvl m) = 60 :: (m ++ [62])
  · rw [if_pos hw, if_pos ⟨hg, hw⟩]
  · rw [if_neg hw, if_neg (fun q => hw q.2)]
set_option maxHeartbeats 4000000 in
theorem readNo_any (p : Bs) (hp : p.getLast? ≠ some 62) (hl : p.length ≤ 65536) (w : World) :
    Calls Tryz.prog 55 #[sV p] w (ReadP ((0, [], []), 3) w) := by
  have hs : ([62] : Bs).isSuffixOf p = false := by
    rw [Bool.eq_false_iff]
    intro h
    rw [List.isSuffixOf_iff_suffix] at h
    obtain ⟨t, rfl⟩ := h
    exact hp (by simp)
  have HS := Lib.hid (fun W => suffix_any p [62] false hs (by unfold maxLen; omega) W)
  clear hs hp hl
  go_enter Tryz.func55, Tryz.ntmps55
  go_wp2_with fail
  refine (HS.out _).mono ?_
  rintro e w1 ⟨rfl, rfl⟩
  go_wp2
  exact bodyPost_ret (v := .tuple #[.agg #[intV 0, sV [], sV [], intV 0], intV 3]) (by simp [results, Tryz.results55, go_sem]; rfl) rfl ⟨rfl, below_alloc _ _⟩
theorem se_len (m : Bs) : (if pkOf m = 3 then [60, 47] else [60] : Bs).length + (if pkOf m = 4 then [47, 62] else [62] : Bs).length ≤ (60 :: (m ++ [62]) : Bs).length := by
  unfold pkOf
  by_cases h1 : m.head? = some 47
  · cases m with
    | nil => cases h1
    | cons c t => simp [h1]
  · by_cases h2 : m.getLast? = some 47
    · cases m with
      | nil => cases h2
      | cons c t => rw [if_neg h1, if_pos h2]; simp
    · rw [if_neg h1, if_neg h2]; simp
theorem trim_le (l p : Bs) : (Lib.trimPrefix l p).length ≤ l.length := by
  unfold Lib.trimPrefix
  split
  · rw [List.length_drop]; omega
  · exact Nat.le_refl _
set_option maxHeartbeats 8000000 in
theorem readTag_any (m : Bs) (hl : m.length ≤ 65534) (w : World) [T w] :
    Calls Tryz.prog 55 #[sV (60 :: (m ++ [62]))] w (ReadP (ptagR m) w) := by
  obtain ⟨p, hp⟩ : ∃ p : Bs, 60 :: (m ++ [62]) = p := ⟨_, rfl⟩
  have hpl : p.length ≤ 65536 := by rw [← hp]; simp; omega
  have hsuf : ([62] : Bs).isSuffixOf p = true := by rw [List.isSuffixOf_iff_suffix, ← hp]; exact ⟨60 :: m, rfl⟩
  have HS := Lib.hid (fun W => suffix_any p [62] true hsuf (by unfold maxLen; omega) W)
  have HK := Lib.hid (fun W => kindOf_any p (pkOf m) (by rw [← hp]; exact kt_pk m) hpl W)
  have HA := Lib.hid (fun W => around_any (pkOf m) W)
  have hsz : (baL p).size = p.length := baL_size p
  have hcut := pin_cut m
  have hse := se_len m
  have hIl : (pin m).length ≤ 65534 := by
    unfold pin
    split
    · simp; omega
    · split
      · simp; omega
      · exact hl
  have hNl : (pnm m).length ≤ (pin m).length := (List.takeWhile_prefix _).length_le
  have hVl : (pvl m).length ≤ (pin m).length := Nat.le_trans (trim_le _ _) (by rw [List.length_drop]; omega)
  have hrest : (baL (pin m)).extract (pnm m).length (pin m).length = baL ((pin m).drop (pnm m).length) := by
    rw [baL_cut]
    congr 1
    exact List.take_of_length_le (by rw [List.length_drop]; omega)
  have HTR := Lib.hid (fun W => trim_any ((pin m).drop (pnm m).length) [32] (pvl m) rfl W)
  have hname : (baL (pin m)).extract 0 (pnm m).length = baL (pnm m) := by
    rw [baL_cut, List.drop_zero, Nat.sub_zero]
    congr 1
    exact (List.prefix_iff_eq_take.1 (List.takeWhile_prefix _)).symm
  have hidx : (Lib.indexAny (pin m) [32, 47] = -1 ∧ pnm m = pin m) ∨ Lib.indexAny (pin m) [32, 47] = ((pnm m).length : Nat) := by
    rw [any_nm]
    by_cases hd : (pin m).dropWhile nmC = []
    · left
      rw [if_pos hd]
      refine ⟨rfl, ?_⟩
      have := List.takeWhile_append_dropWhile (p := nmC) (l := pin m)
      rw [hd, List.append_nil] at this
      exact this
    · right
      rw [if_neg hd]; rfl
  have hno : isTag (pnm m) = false → ptagR m = ((0, [], []), 12) := ptag_no
  have hbad : isTag (pnm m) = true → ctR (pkOf m) (pnm m) (pvl m) ≠ 0 → ptagR m = ((0, [], []), 3) := ptag_bad
  have hok : isTag (pnm m) = true → ctR (pkOf m) (pnm m) (pvl m) = 0 → ptagR m = if wrF (pkOf m) (pnm m) (pvl m) = p then ((pkOf m, pnm m, pvl m), 0) else ((0, [], []), 3) := fun a b => by rw [← hp]; exact ptag_ok a b
  obtain ⟨S, hS⟩ : ∃ S, (if pkOf m = 3 then [60, 47] else [60] : Bs) = S := ⟨_, rfl⟩
  obtain ⟨E, hE⟩ : ∃ E, (if pkOf m = 4 then [47, 62] else [62] : Bs) = E := ⟨_, rfl⟩
  rw [hS, hE] at HA hse hcut
  rw [hp] at hse hcut ⊢
  obtain ⟨X, hX⟩ : ∃ X, ptagR m = X := ⟨_, rfl⟩
  rw [hX] at hno hbad hok ⊢
  obtain ⟨k, hk⟩ : ∃ k, pkOf m = k := ⟨_, rfl⟩
  obtain ⟨n, hn⟩ : ∃ n, pnm m = n := ⟨_, rfl⟩
  obtain ⟨v, hv⟩ : ∃ v, pvl m = v := ⟨_, rfl⟩
  obtain ⟨I, hI⟩ : ∃ I, pin m = I := ⟨_, rfl⟩
  rw [hk] at HK HA hbad hok
  rw [hn] at hNl hrest HTR hname hidx hno hbad hok
  rw [hv] at hVl HTR hbad hok
  rw [hI] at hIl hNl hVl hrest HTR hname hidx hcut
  clear hS hE hX hk hn hv hI hsuf hp hl
  have hSz : (baL S).size = S.length := baL_size S
  have hEz : (baL E).size = E.length := baL_size E
  have hIz : (baL I).size = I.length := baL_size I
  have hNz : (baL n).size = n.length := baL_size n
  obtain ⟨hh, hhe⟩ : ∃ hh, p.length - E.length = hh := ⟨_, rfl⟩
  have hwk : IntKind.i64.wrap ((p.length : Int) - (E.length : Int)) = (hh : Int) := by
    rw [show (p.length : Int) - (E.length : Int) = (hh : Int) by omega]
    exact IntWalk.i64_in _ (by omega)
  rw [hhe] at hcut
  have hlow : (S.length : Int) ≤ (hh : Int) := by omega
  have hlo2 : S.length ≤ hh := by omega
  have hhi : (hh : Int) ≤ (p.length : Int) := by omega
  have hhi2 : hh ≤ p.length := by omega
  have hS0 : (0 : Int) ≤ (S.length : Int) := by omega
  have hni : (n.length : Int) ≤ (I.length : Int) := by omega
  have hn0 : (0 : Int) ≤ (n.length : Int) := by omega
  have hsI : sV I = .string (baL I) := rfl
  have HCUT := Lib.hid hcut
  have HREST := Lib.hid hrest
  have HNAME := Lib.hid hname
  have HNO := Lib.hid hno
  have HBAD := Lib.hid hbad
  have HOK := Lib.hid hok
  have HTG := Lib.hid (fun W => tagOf_any n W)
  obtain ⟨w0, hw0⟩ : ∃ x, lexW w 0 [] [] 0 = x := ⟨_, rfl⟩
  have hB0 : Below w.heap.size w w0 := by rw [← hw0]; exact below_alloc _ _
  have hbx : w0.heap[w.heap.size]? = some (.cells #[intV 0, sV [], sV [], intV 0] 41 (0, 0)) := by rw [← hw0]; exact World.alloc_heap_new _ _
  have hs0 : w0.heap.size = w.heap.size + 1 := by rw [← hw0]; simp
  have HW0 := Lib.hid hw0
  have HB0 := Lib.hid hB0
  have HBX := Lib.hid hbx
  clear hw0 hB0 hbx hhe hcut hrest hname hno hbad hok hse
  rcases hidx with ⟨hi, hnI⟩ | hi
  · have HI := Lib.hid (fun W => any_any I (-1) hi (by omega) W)
    subst hnI
    clear hi
    go_enter Tryz.func55, Tryz.ntmps55
    go_upto_region 1 with fail
    rw [show w.alloc (.cells #[intV 0, .string ⟨#[]⟩, .string ⟨#[]⟩, intV 0] 41) = w0 from HW0.out]
    go_wp2_with fail
    refine (HS.out _).mono ?_
    rintro e w1 ⟨rfl, rfl⟩
    go_wp2_with fail
    refine (HK.out _).mono ?_
    rintro e w1 ⟨rfl, rfl⟩
    go_wp2_with fail
    refine (HA.out _).mono ?_
    rintro e w1 ⟨rfl, rfl⟩
    go_wp2_with fail
    rw [HCUT.out]
    refine (HI.out _).mono ?_
    rintro e w2 ⟨rfl, h2⟩
    have hb2 := (h2.block _ (by omega)).trans HBX.out
    have H2 := Lib.hid (HB0.out.trans (h2.mono (by omega)))
    have HX2 := Lib.hid hb2
    have hs2 := h2.size
    clear h2 hb2
    go_wp2_with fail
    refine (HTG.out _).mono ?_
    rintro e w3 (⟨hT, f, lb, rfl, hf, h3⟩ | ⟨hT, rfl, h3⟩)
    · have hb3 := (h3.block _ (by omega)).trans HX2.out
      have hs3 := h3.size
      obtain ⟨w4, hw4⟩ : ∃ x, (w3.alloc (.cells #[sV n, .bool (emptyT n), .func (.func f) #[] lb] 60)).alloc (.cells #[intV k, sV n, sV v, intV 0] 41) = x := ⟨_, rfl⟩
      have hB4 : Below w3.heap.size w3 w4 := by rw [← hw4]; exact ((Below.refl _ w3).alloc (Nat.le_refl _) _).alloc (by simp) _
      have hlx : w4.heap[w3.heap.size + 1]? = some (.cells #[intV k, sV n, sV v, intV 0] 41 (0, 0)) := by
        rw [← hw4]
        have := World.alloc_heap_new (w3.alloc (.cells #[sV n, .bool (emptyT n), .func (.func f) #[] lb] 60)) (.cells #[intV k, sV n, sV v, intV 0] 41)
        rw [World.size_alloc] at this
        exact this
      have hs4 : w4.heap.size = w3.heap.size + 2 := by rw [← hw4]; simp
      have hb4 := (hB4.block _ (by omega)).trans hb3
      have H4 := Lib.hid (H2.out.trans ((h3.mono (by omega)).trans (hB4.mono (by omega))))
      haveI : T w4 := T.below H4.out
      obtain ⟨c, hc⟩ : ∃ c, ctR k n v = c := ⟨_, rfl⟩
      have HCT := Lib.hid (checkTag_any k n v 0 (by unfold maxLen; omega) (by omega) c hc w4)
      have HW4 := Lib.hid hw4
      have HX4 := Lib.hid (And.intro hb4 hlx)
      have HTT := Lib.hid hT
      have HCC := Lib.hid hc
      obtain ⟨l0, l1, l2, l3⟩ := heap4P hlx
      clear hf h3 hb3 hw4 hB4 hlx hb4 hT hc
      go_wp2_with fail
      rw [show ByteArray.empty = baL (n.drop n.length) from by rw [List.drop_length]; rfl]
      refine (HTR.out _).mono ?_
      rintro e w5 ⟨rfl, rfl⟩
      go_upto_region 15 with fail
      rw [HW4.out]
      go_wp2_with fail
      refine HCT.out.mono ?_
      rintro e w5 ⟨rfl, h5⟩
      have hb5 := (h5.block _ (by omega)).trans HX4.out.1
      have hlx5 := (h5.block _ (by omega)).trans HX4.out.2
      have hs5 := h5.size
      have H5 := Lib.hid (H4.out.trans (h5.mono (by omega)))
      clear l0 l1 l2 l3 h5
      by_cases hc0 : c = 0
      · have q0 : (c != 0) = false := by simp [hc0]
        have HX := Lib.hid (HOK.out HTT.out (by rw [HCC.out]; exact hc0))
        obtain ⟨l0, l1, l2, l3⟩ := heap4P hlx5
        obtain ⟨t, ht⟩ : ∃ t, wrF k n v = t := ⟨_, rfl⟩
        have HWR := Lib.hid (written_any k n v 0 t ht (by omega) (by omega) w5)
        rw [ht] at HX
        have HX5 := Lib.hid (And.intro hb5 hlx5)
        have htl : (baL t).toList = t := toL t
        have hpt : (baL p).toList = p := toL p
        obtain ⟨zt, hzt⟩ : ∃ z, baL t = z := ⟨_, rfl⟩
        rw [show sV t = .string (baL t) from rfl, hzt] at HWR
        rw [hzt] at htl
        have HPT := Lib.hid (And.intro htl hpt)
        clear ht hc0 hb5 hlx5 htl hpt hzt
        go_wp2_with fail
        refine HWR.out.mono ?_
        rintro e w6 ⟨rfl, h6⟩
        have hb6 := (h6.block _ (by omega)).trans HX5.out.1
        have hlx6 := (h6.block _ (by omega)).trans HX5.out.2
        have hs6 := h6.size
        have H6 := Lib.hid (H5.out.trans (h6.mono (by omega)))
        clear l0 l1 l2 l3 h6
        by_cases htp : t = p
        · have q1 : (zt.toList == (baL p).toList) = true := by rw [HPT.out.1, HPT.out.2, htp]; simp
          have HE := Lib.hid (show X = ((k, n, v), 0) by rw [HX.out, if_pos htp])
          clear htp
          obtain ⟨l0, l1, l2, l3⟩ := heap4P hlx6
          clear hlx6
          obtain ⟨c0, c1, c2, c3⟩ := heap4P hb6
          have f0 := heap_free hb6 0
          have f1 := heap_free hb6 1
          have f2 := heap_free hb6 2
          have f3 := heap_free hb6 3
          obtain ⟨Wz, hWz⟩ : ∃ x, (((w6.setCell ⟨w.heap.size, 0, none⟩ (intV k)).setCell ⟨w.heap.size, 1, none⟩ (sV n)).setCell ⟨w.heap.size, 2, none⟩ (sV v)).setCell ⟨w.heap.size, 3, none⟩ (intV 0) = x := ⟨_, rfl⟩
          have HSZ := Lib.hid (set4P hb6 (Nat.le_refl _) hWz)
          have HWZ := Lib.hid hWz
          clear hWz hb6
          go_wp2
          rw [HWZ.out]
          obtain ⟨z1, z2, z3⟩ := HSZ.out
          obtain ⟨d0, d1, d2, d3⟩ := heap4P z1
          refine bodyPost_ret (v := .tuple #[.agg #[intV k, sV n, sV v, intV 0], intV 0]) (by simp [results, Tryz.results55, go_sem, d0, d1, d2, d3]) rfl ⟨?_, H6.out.trans z3⟩
          rw [HE.out]
        · have q1 : (zt.toList == (baL p).toList) = false := by rw [HPT.out.1, HPT.out.2]; simpa using htp
          have HE := Lib.hid (show X = ((0, [], []), 3) by rw [HX.out, if_neg htp])
          clear htp hlx6
          obtain ⟨c0, c1, c2, c3⟩ := heap4P hb6
          have f0 := heap_free hb6 0
          have f1 := heap_free hb6 1
          have f2 := heap_free hb6 2
          have f3 := heap_free hb6 3
          obtain ⟨Wz, hWz⟩ : ∃ x, (((w6.setCell ⟨w.heap.size, 0, none⟩ (intV 0)).setCell ⟨w.heap.size, 1, none⟩ (.string ⟨#[]⟩)).setCell ⟨w.heap.size, 2, none⟩ (.string ⟨#[]⟩)).setCell ⟨w.heap.size, 3, none⟩ (intV 0) = x := ⟨_, rfl⟩
          have HSZ := Lib.hid (set4P hb6 (Nat.le_refl _) hWz)
          have HWZ := Lib.hid hWz
          clear hWz hb6
          go_wp2
          rw [HWZ.out]
          obtain ⟨z1, z2, z3⟩ := HSZ.out
          obtain ⟨d0, d1, d2, d3⟩ := heap4P z1
          refine bodyPost_ret (v := .tuple #[.agg #[intV 0, .string ⟨#[]⟩, .string ⟨#[]⟩, intV 0], intV 3]) (by simp [results, Tryz.results55, go_sem, d0, d1, d2, d3]) rfl ⟨?_, H6.out.trans z3⟩
          rw [HE.out]; rfl
      · have q0 : (c != 0) = true := by simpa using hc0
        have HE := Lib.hid (HBAD.out HTT.out (by rw [HCC.out]; exact hc0))
        clear hc0 hlx5
        obtain ⟨c0, c1, c2, c3⟩ := heap4P hb5
        have f0 := heap_free hb5 0
        have f1 := heap_free hb5 1
        have f2 := heap_free hb5 2
        have f3 := heap_free hb5 3
        obtain ⟨Wz, hWz⟩ : ∃ x, (((w5.setCell ⟨w.heap.size, 0, none⟩ (intV 0)).setCell ⟨w.heap.size, 1, none⟩ (.string ⟨#[]⟩)).setCell ⟨w.heap.size, 2, none⟩ (.string ⟨#[]⟩)).setCell ⟨w.heap.size, 3, none⟩ (intV 0) = x := ⟨_, rfl⟩
        have HSZ := Lib.hid (set4P hb5 (Nat.le_refl _) hWz)
        have HWZ := Lib.hid hWz
        clear hWz hb5
        go_wp2
        rw [HWZ.out]
        obtain ⟨z1, z2, z3⟩ := HSZ.out
        obtain ⟨d0, d1, d2, d3⟩ := heap4P z1
        refine bodyPost_ret (v := .tuple #[.agg #[intV 0, .string ⟨#[]⟩, .string ⟨#[]⟩, intV 0], intV 3]) (by simp [results, Tryz.results55, go_sem, d0, d1, d2, d3]) rfl ⟨?_, H5.out.trans z3⟩
        rw [HE.out]; rfl
    · have hb3 := (h3.block _ (by omega)).trans HX2.out
      have hs3 := h3.size
      obtain ⟨w4, hw4⟩ : ∃ x, w3.alloc (.cells #[sV [], .bool false, .nilFunc] 60) = x := ⟨_, rfl⟩
      have hB4 : Below w3.heap.size w3 w4 := by rw [← hw4]; exact below_alloc _ _
      have hb4 := (hB4.block _ (by omega)).trans hb3
      have H4 := Lib.hid (H2.out.trans ((h3.mono (by omega)).trans (hB4.mono (by omega))))
      have HW4 := Lib.hid hw4
      have HE := Lib.hid (HNO.out hT)
      clear h3 hb3 hw4 hB4 hT
      go_upto_region 11 with fail
      rw [HW4.out]
      obtain ⟨c0, c1, c2, c3⟩ := heap4P hb4
      have f0 := heap_free hb4 0
      have f1 := heap_free hb4 1
      have f2 := heap_free hb4 2
      have f3 := heap_free hb4 3
      obtain ⟨Wz, hWz⟩ : ∃ x, (((w4.setCell ⟨w.heap.size, 0, none⟩ (intV 0)).setCell ⟨w.heap.size, 1, none⟩ (.string ⟨#[]⟩)).setCell ⟨w.heap.size, 2, none⟩ (.string ⟨#[]⟩)).setCell ⟨w.heap.size, 3, none⟩ (intV 0) = x := ⟨_, rfl⟩
      have HSZ := Lib.hid (set4P hb4 (Nat.le_refl _) hWz)
      have HWZ := Lib.hid hWz
      clear hWz hb4
      go_wp2
      rw [HWZ.out]
      obtain ⟨z1, z2, z3⟩ := HSZ.out
      obtain ⟨d0, d1, d2, d3⟩ := heap4P z1
      refine bodyPost_ret (v := .tuple #[.agg #[intV 0, .string ⟨#[]⟩, .string ⟨#[]⟩, intV 0], intV 12]) (by simp [results, Tryz.results55, go_sem, d0, d1, d2, d3]) rfl ⟨?_, H4.out.trans z3⟩
      rw [HE.out]; rfl
  · have HI := Lib.hid (fun W => any_any I _ hi (by omega) W)
    clear hi
    go_enter Tryz.func55, Tryz.ntmps55
    go_upto_region 1 with fail
    rw [show w.alloc (.cells #[intV 0, .string ⟨#[]⟩, .string ⟨#[]⟩, intV 0] 41) = w0 from HW0.out]
    go_wp2_with fail
    refine (HS.out _).mono ?_
    rintro e w1 ⟨rfl, rfl⟩
    go_wp2_with fail
    refine (HK.out _).mono ?_
    rintro e w1 ⟨rfl, rfl⟩
    go_wp2_with fail
    refine (HA.out _).mono ?_
    rintro e w1 ⟨rfl, rfl⟩
    go_wp2_with fail
    rw [HCUT.out]
    refine (HI.out _).mono ?_
    rintro e w2 ⟨rfl, h2⟩
    have hb2 := (h2.block _ (by omega)).trans HBX.out
    have H2 := Lib.hid (HB0.out.trans (h2.mono (by omega)))
    have HX2 := Lib.hid hb2
    have hs2 := h2.size
    clear h2 hb2
    go_wp2_with fail
    rw [HNAME.out]
    refine (HTG.out _).mono ?_
    rintro e w3 (⟨hT, f, lb, rfl, hf, h3⟩ | ⟨hT, rfl, h3⟩)
    · have hb3 := (h3.block _ (by omega)).trans HX2.out
      have hs3 := h3.size
      obtain ⟨w4, hw4⟩ : ∃ x, (w3.alloc (.cells #[sV n, .bool (emptyT n), .func (.func f) #[] lb] 60)).alloc (.cells #[intV k, sV n, sV v, intV 0] 41) = x := ⟨_, rfl⟩
      have hB4 : Below w3.heap.size w3 w4 := by rw [← hw4]; exact ((Below.refl _ w3).alloc (Nat.le_refl _) _).alloc (by simp) _
      have hlx : w4.heap[w3.heap.size + 1]? = some (.cells #[intV k, sV n, sV v, intV 0] 41 (0, 0)) := by
        rw [← hw4]
        have := World.alloc_heap_new (w3.alloc (.cells #[sV n, .bool (emptyT n), .func (.func f) #[] lb] 60)) (.cells #[intV k, sV n, sV v, intV 0] 41)
        rw [World.size_alloc] at this
        exact this
      have hs4 : w4.heap.size = w3.heap.size + 2 := by rw [← hw4]; simp
      have hb4 := (hB4.block _ (by omega)).trans hb3
      have H4 := Lib.hid (H2.out.trans ((h3.mono (by omega)).trans (hB4.mono (by omega))))
      haveI : T w4 := T.below H4.out
      obtain ⟨c, hc⟩ : ∃ c, ctR k n v = c := ⟨_, rfl⟩
      have HCT := Lib.hid (checkTag_any k n v 0 (by unfold maxLen; omega) (by omega) c hc w4)
      have HW4 := Lib.hid hw4
      have HX4 := Lib.hid (And.intro hb4 hlx)
      have HTT := Lib.hid hT
      have HCC := Lib.hid hc
      obtain ⟨l0, l1, l2, l3⟩ := heap4P hlx
      clear hf h3 hb3 hw4 hB4 hlx hb4 hT hc
      go_wp2_with fail
      rw [HREST.out]
      refine (HTR.out _).mono ?_
      rintro e w5 ⟨rfl, rfl⟩
      go_upto_region 15 with fail
      rw [HW4.out]
      go_wp2_with fail
      refine HCT.out.mono ?_
      rintro e w5 ⟨rfl, h5⟩
      have hb5 := (h5.block _ (by omega)).trans HX4.out.1
      have hlx5 := (h5.block _ (by omega)).trans HX4.out.2
      have hs5 := h5.size
      have H5 := Lib.hid (H4.out.trans (h5.mono (by omega)))
      clear l0 l1 l2 l3 h5
      by_cases hc0 : c = 0
      · have q0 : (c != 0) = false := by simp [hc0]
        have HX := Lib.hid (HOK.out HTT.out (by rw [HCC.out]; exact hc0))
        obtain ⟨l0, l1, l2, l3⟩ := heap4P hlx5
        obtain ⟨t, ht⟩ : ∃ t, wrF k n v = t := ⟨_, rfl⟩
        have HWR := Lib.hid (written_any k n v 0 t ht (by omega) (by omega) w5)
        rw [ht] at HX
        have HX5 := Lib.hid (And.intro hb5 hlx5)
        have htl : (baL t).toList = t := toL t
        have hpt : (baL p).toList = p := toL p
        obtain ⟨zt, hzt⟩ : ∃ z, baL t = z := ⟨_, rfl⟩
        rw [show sV t = .string (baL t) from rfl, hzt] at HWR
        rw [hzt] at htl
        have HPT := Lib.hid (And.intro htl hpt)
        clear ht hc0 hb5 hlx5 htl hpt hzt
        go_wp2_with fail
        refine HWR.out.mono ?_
        rintro e w6 ⟨rfl, h6⟩
        have hb6 := (h6.block _ (by omega)).trans HX5.out.1
        have hlx6 := (h6.block _ (by omega)).trans HX5.out.2
        have hs6 := h6.size
        have H6 := Lib.hid (H5.out.trans (h6.mono (by omega)))
        clear l0 l1 l2 l3 h6
        by_cases htp : t = p
        · have q1 : (zt.toList == (baL p).toList) = true := by rw [HPT.out.1, HPT.out.2, htp]; simp
          have HE := Lib.hid (show X = ((k, n, v), 0) by rw [HX.out, if_pos htp])
          clear htp
          obtain ⟨l0, l1, l2, l3⟩ := heap4P hlx6
          clear hlx6
          obtain ⟨c0, c1, c2, c3⟩ := heap4P hb6
          have f0 := heap_free hb6 0
          have f1 := heap_free hb6 1
          have f2 := heap_free hb6 2
          have f3 := heap_free hb6 3
          obtain ⟨Wz, hWz⟩ : ∃ x, (((w6.setCell ⟨w.heap.size, 0, none⟩ (intV k)).setCell ⟨w.heap.size, 1, none⟩ (sV n)).setCell ⟨w.heap.size, 2, none⟩ (sV v)).setCell ⟨w.heap.size, 3, none⟩ (intV 0) = x := ⟨_, rfl⟩
          have HSZ := Lib.hid (set4P hb6 (Nat.le_refl _) hWz)
          have HWZ := Lib.hid hWz
          clear hWz hb6
          go_wp2
          rw [HWZ.out]
          obtain ⟨z1, z2, z3⟩ := HSZ.out
          obtain ⟨d0, d1, d2, d3⟩ := heap4P z1
          refine bodyPost_ret (v := .tuple #[.agg #[intV k, sV n, sV v, intV 0], intV 0]) (by simp [results, Tryz.results55, go_sem, d0, d1, d2, d3]) rfl ⟨?_, H6.out.trans z3⟩
          rw [HE.out]
        · have q1 : (zt.toList == (baL p).toList) = false := by rw [HPT.out.1, HPT.out.2]; simpa using htp
          have HE := Lib.hid (show X = ((0, [], []), 3) by rw [HX.out, if_neg htp])
          clear htp hlx6
          obtain ⟨c0, c1, c2, c3⟩ := heap4P hb6
          have f0 := heap_free hb6 0
          have f1 := heap_free hb6 1
          have f2 := heap_free hb6 2
          have f3 := heap_free hb6 3
          obtain ⟨Wz, hWz⟩ : ∃ x, (((w6.setCell ⟨w.heap.size, 0, none⟩ (intV 0)).setCell ⟨w.heap.size, 1, none⟩ (.string ⟨#[]⟩)).setCell ⟨w.heap.size, 2, none⟩ (.string ⟨#[]⟩)).setCell ⟨w.heap.size, 3, none⟩ (intV 0) = x := ⟨_, rfl⟩
          have HSZ := Lib.hid (set4P hb6 (Nat.le_refl _) hWz)
          have HWZ := Lib.hid hWz
          clear hWz hb6
          go_wp2
          rw [HWZ.out]
          obtain ⟨z1, z2, z3⟩ := HSZ.out
          obtain ⟨d0, d1, d2, d3⟩ := heap4P z1
          refine bodyPost_ret (v := .tuple #[.agg #[intV 0, .string ⟨#[]⟩, .string ⟨#[]⟩, intV 0], intV 3]) (by simp [results, Tryz.results55, go_sem, d0, d1, d2, d3]) rfl ⟨?_, H6.out.trans z3⟩
          rw [HE.out]; rfl
      · have q0 : (c != 0) = true := by simpa using hc0
        have HE := Lib.hid (HBAD.out HTT.out (by rw [HCC.out]; exact hc0))
        clear hc0 hlx5
        obtain ⟨c0, c1, c2, c3⟩ := heap4P hb5
        have f0 := heap_free hb5 0
        have f1 := heap_free hb5 1
        have f2 := heap_free hb5 2
        have f3 := heap_free hb5 3
        obtain ⟨Wz, hWz⟩ : ∃ x, (((w5.setCell ⟨w.heap.size, 0, none⟩ (intV 0)).setCell ⟨w.heap.size, 1, none⟩ (.string ⟨#[]⟩)).setCell ⟨w.heap.size, 2, none⟩ (.string ⟨#[]⟩)).setCell ⟨w.heap.size, 3, none⟩ (intV 0) = x := ⟨_, rfl⟩
        have HSZ := Lib.hid (set4P hb5 (Nat.le_refl _) hWz)
        have HWZ := Lib.hid hWz
        clear hWz hb5
        go_wp2
        rw [HWZ.out]
        obtain ⟨z1, z2, z3⟩ := HSZ.out
        obtain ⟨d0, d1, d2, d3⟩ := heap4P z1
        refine bodyPost_ret (v := .tuple #[.agg #[intV 0, .string ⟨#[]⟩, .string ⟨#[]⟩, intV 0], intV 3]) (by simp [results, Tryz.results55, go_sem, d0, d1, d2, d3]) rfl ⟨?_, H5.out.trans z3⟩
        rw [HE.out]; rfl
    · have hb3 := (h3.block _ (by omega)).trans HX2.out
      have hs3 := h3.size
      obtain ⟨w4, hw4⟩ : ∃ x, w3.alloc (.cells #[sV [], .bool false, .nilFunc] 60) = x := ⟨_, rfl⟩
      have hB4 : Below w3.heap.size w3 w4 := by rw [← hw4]; exact below_alloc _ _
      have hb4 := (hB4.block _ (by omega)).trans hb3
      have H4 := Lib.hid (H2.out.trans ((h3.mono (by omega)).trans (hB4.mono (by omega))))
      have HW4 := Lib.hid hw4
      have HE := Lib.hid (HNO.out hT)
      clear h3 hb3 hw4 hB4 hT
      go_upto_region 11 with fail
      rw [HW4.out]
      obtain ⟨c0, c1, c2, c3⟩ := heap4P hb4
      have f0 := heap_free hb4 0
      have f1 := heap_free hb4 1
      have f2 := heap_free hb4 2
      have f3 := heap_free hb4 3
      obtain ⟨Wz, hWz⟩ : ∃ x, (((w4.setCell ⟨w.heap.size, 0, none⟩ (intV 0)).setCell ⟨w.heap.size, 1, none⟩ (.string ⟨#[]⟩)).setCell ⟨w.heap.size, 2, none⟩ (.string ⟨#[]⟩)).setCell ⟨w.heap.size, 3, none⟩ (intV 0) = x := ⟨_, rfl⟩
      have HSZ := Lib.hid (set4P hb4 (Nat.le_refl _) hWz)
      have HWZ := Lib.hid hWz
      clear hWz hb4
      go_wp2
      rw [HWZ.out]
      obtain ⟨z1, z2, z3⟩ := HSZ.out
      obtain ⟨d0, d1, d2, d3⟩ := heap4P z1
      refine bodyPost_ret (v := .tuple #[.agg #[intV 0, .string ⟨#[]⟩, .string ⟨#[]⟩, intV 0], intV 12]) (by simp [results, Tryz.results55, go_sem, d0, d1, d2, d3]) rfl ⟨?_, H4.out.trans z3⟩
      rw [HE.out]; rfl
set_option maxHeartbeats 2000000 in
theorem read_any (p : Bs) (hp : p.length ≤ 65536) (w : World) [T w] :
    Calls Tryz.prog 38 #[sV p] w (ReadP (readR p) w) := by
  obtain ⟨w0, hw0⟩ : ∃ x, lexW w 0 [] [] 0 = x := ⟨_, rfl⟩
  have hB0 : Below w.heap.size w w0 := by rw [← hw0]; exact below_alloc _ _
  have hbx : w0.heap[w.heap.size]? = some (.cells #[intV 0, sV [], sV [], intV 0] 41 (0, 0)) := by rw [← hw0]; exact World.alloc_heap_new _ _
  have hs0 : w0.heap.size = w.heap.size + 1 := by rw [← hw0]; simp
  have HW0 := Lib.hid hw0
  have HB0 := Lib.hid hB0
  have HBX := Lib.hid hbx
  haveI : T w0 := T.below hB0
  clear hw0 hB0 hbx
  by_cases h6 : p.head? = some 60
  · have hpre : ([60] : Bs).isPrefixOf p = true := by
      cases p with
      | nil => cases h6
      | cons c l =>
        have : c = 60 := by simpa using h6
        subst this; rfl
    have HP := Lib.hid (fun W => prefix_any p [60] true hpre W)
    obtain ⟨X, hX, HRT⟩ : ∃ X, readR p = X ∧ Hid (∀ (W : World) [T W], Calls Tryz.prog 55 #[sV p] W (ReadP X W)) := by
      unfold readR
      rw [if_pos h6]
      by_cases h2 : p.getLast? = some 62
      · rw [if_pos h2]
        refine ⟨_, rfl, Lib.hid fun W hT => ?_⟩
        obtain ⟨t, rfl⟩ : ∃ t, p = 60 :: t := by
          cases p with
          | nil => cases h6
          | cons c l => exact ⟨l, by rw [show c = 60 by simpa using h6]⟩
        have ht : t ≠ [] := by rintro rfl; simp at h2
        have h3 : t.getLast? = some 62 := by
          rw [List.getLast?_cons_of_ne_nil ht] at h2; exact h2
        have h4 : t = t.dropLast ++ [62] := by
          have := List.dropLast_concat_getLast ht
          rw [List.getLast?_eq_some_getLast ht, Option.some.injEq] at h3
          rw [h3] at this; exact this.symm
        have := readTag_any t.dropLast (by rw [List.length_dropLast]; simp at hp; omega) W
        rw [← h4] at this
        exact this
      · rw [if_neg h2]
        exact ⟨_, rfl, Lib.hid fun W _ => readNo_any p h2 hp W⟩
    rw [hX]
    obtain ⟨⟨k, n, v⟩, e⟩ := X
    clear hX hpre h6
    go_enter Tryz.func38, Tryz.ntmps38
    go_upto_region 1 with fail
    rw [show w.alloc (.cells #[intV 0, .string ⟨#[]⟩, .string ⟨#[]⟩, intV 0] 41) = w0 from HW0.out]
    go_wp2_with fail
    refine (HP.out _).mono ?_
    rintro e' w1 ⟨rfl, rfl⟩
    go_wp2_with fail
    refine (HRT.out _).mono ?_
    rintro e' w2 ⟨rfl, h2⟩
    have hb2 := (h2.block _ (by omega)).trans HBX.out
    have H2 := Lib.hid (HB0.out.trans (h2.mono (by omega)))
    simp only
    clear h2
    obtain ⟨c0, c1, c2, c3⟩ := heap4P hb2
    have f0 := heap_free hb2 0
    have f1 := heap_free hb2 1
    have f2 := heap_free hb2 2
    have f3 := heap_free hb2 3
    obtain ⟨Wz, hWz⟩ : ∃ x, (((w2.setCell ⟨w.heap.size, 0, none⟩ (intV k)).setCell ⟨w.heap.size, 1, none⟩ (sV n)).setCell ⟨w.heap.size, 2, none⟩ (sV v)).setCell ⟨w.heap.size, 3, none⟩ (intV 0) = x := ⟨_, rfl⟩
    have HSZ := Lib.hid (set4P hb2 (Nat.le_refl _) hWz)
    have HWZ := Lib.hid hWz
    clear hWz hb2
    go_wp2
    rw [HWZ.out]
    obtain ⟨z1, z2, z3⟩ := HSZ.out
    obtain ⟨d0, d1, d2, d3⟩ := heap4P z1
    refine bodyPost_ret (v := .tuple #[.agg #[intV k, sV n, sV v, intV 0], intV e]) (by simp [results, Tryz.results38, go_sem, d0, d1, d2, d3]) rfl ⟨?_, H2.out.trans z3⟩
    rfl
  · have hpre : ([60] : Bs).isPrefixOf p = false := by
      cases p with
      | nil => rfl
      | cons c l =>
        have : c ≠ 60 := by simpa using h6
        simp [List.isPrefixOf]; exact fun e => this e.symm
    have HP := Lib.hid (fun W => prefix_any p [60] false hpre W)
    obtain ⟨c, hc⟩ : ∃ c, chk p = c := ⟨_, rfl⟩
    have HC := Lib.hid (show ∀ W, Calls Tryz.prog 56 #[sV p] W fun e w' => e = .returned (.int .i64 c) ∧ Below W.heap.size W w' from fun W => by
      have := C01.check_any (baL p) (by rw [baL_size]; unfold maxLen; omega) W
      rw [baL_data, hc] at this
      exact this)
    have hX : readR p = if c ≠ 0 then ((0, [], []), 11) else ((1, [], p), 0) := by unfold readR; rw [if_neg h6, hc]
    rw [hX]
    clear hX hpre h6 hc
    by_cases hc0 : c = 0
    · have q0 : (c != 0) = false := by simp [hc0]
      rw [if_neg (by simp [hc0])]
      clear hc0
      go_enter Tryz.func38, Tryz.ntmps38
      go_upto_region 1 with fail
      rw [show w.alloc (.cells #[intV 0, .string ⟨#[]⟩, .string ⟨#[]⟩, intV 0] 41) = w0 from HW0.out]
      go_wp2_with fail
      refine (HP.out _).mono ?_
      rintro e' w1 ⟨rfl, rfl⟩
      go_wp2_with fail
      refine (HC.out _).mono ?_
      rintro e' w2 ⟨rfl, h2⟩
      have hb2 := (h2.block _ (by omega)).trans HBX.out
      have H2 := Lib.hid (HB0.out.trans (h2.mono (by omega)))
      clear h2
      obtain ⟨c0, c1, c2, c3⟩ := heap4P hb2
      have f0 := heap_free hb2 0
      have f1 := heap_free hb2 1
      have f2 := heap_free hb2 2
      have f3 := heap_free hb2 3
      obtain ⟨Wz, hWz⟩ : ∃ x, (((w2.setCell ⟨w.heap.size, 0, none⟩ (intV 1)).setCell ⟨w.heap.size, 1, none⟩ (.string ⟨#[]⟩)).setCell ⟨w.heap.size, 2, none⟩ (sV p)).setCell ⟨w.heap.size, 3, none⟩ (intV 0) = x := ⟨_, rfl⟩
      have HSZ := Lib.hid (set4P hb2 (Nat.le_refl _) hWz)
      have HWZ := Lib.hid hWz
      clear hWz hb2
      go_wp2
      rw [HWZ.out]
      obtain ⟨z1, z2, z3⟩ := HSZ.out
      obtain ⟨d0, d1, d2, d3⟩ := heap4P z1
      refine bodyPost_ret (v := .tuple #[.agg #[intV 1, .string ⟨#[]⟩, sV p, intV 0], intV 0]) (by simp [results, Tryz.results38, go_sem, d0, d1, d2, d3]) rfl ⟨?_, H2.out.trans z3⟩
      rfl
    · have q0 : (c != 0) = true := by simpa using hc0
      rw [if_pos hc0]
      clear hc0
      go_enter Tryz.func38, Tryz.ntmps38
      go_upto_region 1 with fail
      rw [show w.alloc (.cells #[intV 0, .string ⟨#[]⟩, .string ⟨#[]⟩, intV 0] 41) = w0 from HW0.out]
      go_wp2_with fail
      refine (HP.out _).mono ?_
      rintro e' w1 ⟨rfl, rfl⟩
      go_wp2_with fail
      refine (HC.out _).mono ?_
      rintro e' w2 ⟨rfl, h2⟩
      have hb2 := (h2.block _ (by omega)).trans HBX.out
      have H2 := Lib.hid (HB0.out.trans (h2.mono (by omega)))
      clear h2
      obtain ⟨c0, c1, c2, c3⟩ := heap4P hb2
      have f0 := heap_free hb2 0
      have f1 := heap_free hb2 1
      have f2 := heap_free hb2 2
      have f3 := heap_free hb2 3
      obtain ⟨Wz, hWz⟩ : ∃ x, (((w2.setCell ⟨w.heap.size, 0, none⟩ (intV 0)).setCell ⟨w.heap.size, 1, none⟩ (.string ⟨#[]⟩)).setCell ⟨w.heap.size, 2, none⟩ (.string ⟨#[]⟩)).setCell ⟨w.heap.size, 3, none⟩ (intV 0) = x := ⟨_, rfl⟩
      have HSZ := Lib.hid (set4P hb2 (Nat.le_refl _) hWz)
      have HWZ := Lib.hid hWz
      clear hWz hb2
      go_wp2
      rw [HWZ.out]
      obtain ⟨z1, z2, z3⟩ := HSZ.out
      obtain ⟨d0, d1, d2, d3⟩ := heap4P z1
      refine bodyPost_ret (v := .tuple #[.agg #[intV 0, .string ⟨#[]⟩, .string ⟨#[]⟩, intV 0], intV 11]) (by simp [results, Tryz.results38, go_sem, d0, d1, d2, d3]) rfl ⟨?_, H2.out.trans z3⟩
      rfl
end Go.Proofs.YtdgihkgomfpmoaaGreatDoor
