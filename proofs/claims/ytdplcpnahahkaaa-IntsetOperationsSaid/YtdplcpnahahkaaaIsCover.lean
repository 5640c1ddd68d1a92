/- Cover of layer 4's own code. -/
import Derived.Test.YtdplcpnahahkaaaIsFirst
import Derived.Deep.OwnRows
namespace Go.Proofs.Ytdplcpnahahkaaa
set_option linter.unusedSimpArgs false
set_option linter.unusedVariables false
set_option maxRecDepth 100000
open Go.RowKit Go.Shelf Go.Deep

theorem info_mark : (Try.prog.info? 53).map (fun i => (i.zero, i.size, i.bytes)) = some (some (.int .u64 0), 1, 8) := by kernel_rfl
theorem marks_own (w : World) (n : Nat) (base : Nat) (hb : base ≤ w.heap.size) (hn : n ≤ 1000) : (w.alloc (.cells (madeCells #[Value.int .u64 0] n) 53)).ownsRow base 53 1 (.slice (some ⟨w.heap.size, 0, none⟩) n n) n ((List.replicate n 0).map u64V) := by
  have e1 : (madeCells #[Value.int .u64 0] n).toList = (List.replicate n (0 : Nat)).map u64V := (toList_madeCells_one (.int .u64 0) n).trans (by simp [u64V])
  have := World.ownsRow_lit (base := base) (e := 53) (size := 1) w (madeCells #[Value.int .u64 0] n) n hb (by unfold maxLen; omega) (by rw [← Array.length_toList, e1]; simp)
  rwa [e1] at this
theorem row_at {ds : List Nat} {j n : Nat} (hd : ds.length = j) (hj : j < n) : ((ds ++ List.replicate (n - j) 0).map u64V)[j]? = some (u64V 0) := by
  subst hd
  rw [List.getElem?_map, List.getElem?_append_right (Nat.le_refl _), Nat.sub_self, List.getElem?_replicate, if_pos (by omega)]
  rfl
theorem row_set {ds : List Nat} {j n : Nat} {x : Nat} (hd : ds.length = j) (hj : j < n) : ((ds ++ List.replicate (n - j) 0).map u64V).set j (u64V x) = ((ds ++ [x]) ++ List.replicate (n - (j + 1)) 0).map u64V := by
  subst hd
  have e : List.replicate (n - ds.length) (0 : Nat) = 0 :: List.replicate (n - (ds.length + 1)) 0 := by
    rw [show n - ds.length = (n - (ds.length + 1)) + 1 by omega, List.replicate_succ]
  rw [e]
  apply List.ext_getElem?
  intro i
  simp [List.getElem?_set, List.getElem?_append, List.getElem?_map, u64V]
def CovPost (T : List Int) (L : List (List Int)) (w : World) (e : Ending) (w' : World) : Prop := ∃ r, CovP T L r ∧ ListPost r w e w'
set_option maxHeartbeats 4000000 in
theorem cover_any (T : List Int) (L : List (List Int)) (vT vL : Value) (w : World) (hT : IntsAt w vT T) (hL : ListsAt w vL L) (lT : T.length ≤ 1000000) (lL : L.length ≤ 1000000) (hs : ∀ l ∈ L, l.length ≤ 1000000) :
    Calls Try.prog 31 #[vT, vL] w (CovPost T L w) := by
  have HT := Lib.hid hT
  have HV := Lib.hid hL
  have HS := Lib.hid hs
  obtain ⟨aT, cT, rfl, _⟩ := hT
  obtain ⟨aL, cL, rfl, _⟩ := hL
  clear hs
  by_cases h16 : 16 < L.length
  · have h16' : (16 : Int) < (L.length : Int) := by omega
    go_enter Try.func31, Try.ntmps31
    go_wp2
    go_ret2
    exact ⟨_, .inl ⟨h16, rfl⟩, ListPost.bad rfl (Below.refl _ _)⟩
  · have h16' : (L.length : Int) ≤ 16 := by omega
    by_cases eT : errL T = 0
    · have I1 := Lib.hid (isSet_any T true (by simpa using eT) _ w HT.out lT)
      by_cases eL : ∀ l ∈ L, errL l = 0
      · have I2 := Lib.hid (areSets_any L true (by simpa using eL) _ w HV.out lL HS.out)
        have hRT := ((err_iff _).1 eT).2
        have HRL := Lib.hid (show ∀ l ∈ L, InR l from fun l h => ((err_iff l).1 (eL l h)).2)
        have HOK := Lib.hid (And.intro h16 (show ¬ (errL T ≠ 0 ∨ ∃ l ∈ L, errL l ≠ 0) by rintro (h | ⟨l, h1, h2⟩); exact h eT; exact h2 (eL l h1)))
        have HRT := Lib.hid hRT
        have M1 := Lib.hid (fun m => mark_any T hRT _ (w.drewN m) (HT.out.below (below_drewN w m)) lT)
        have M2 := Lib.hid (fun W (h : Below w.heap.size w W) => mark_any T hRT _ W (HT.out.below h) lT)
        have hmk := fun W => run_make_row' (P := Try.prog) 59 53 (.int .u64 0) 8 Try.underlying59 info_mark rfl .i64 .i64 L.length (by omega) (by omega) W
        clear eT eL hRT
        go_enter Try.func31, Try.ntmps31
        go_wp2_with fail
        refine I1.out.mono ?_
        rintro e w1 ⟨rfl, rfl⟩
        go_wp2_with fail
        refine I2.out.mono ?_
        rintro e w1 ⟨rfl, rfl⟩
        clear I1 I2
        go_wp2_with fail
        go_region_held3 (fun w' => True) (trivial)
          (first | ((try go_simp); go_at_call 44; first | (refine (M2.out _ (below_drew1 _ _)).mono ?_; rintro e w2 ⟨rfl, rfl⟩) | (refine (M2.out _ ((below_drew1 _ _).alloc (Nat.le_refl _) _)).mono ?_; rintro e w2 ⟨rfl, rfl⟩)))
        all_goals
          obtain ⟨w1, hw1⟩ : ∃ w1, (w.alloc (.cells (madeCells #[Value.int .u64 0] L.length) 53)).drew = w1 := ⟨_, rfl⟩
          have HO0 := Lib.hid (show w1.ownsRow w.heap.size 53 1 (.slice (some ⟨w.heap.size, 0, none⟩) L.length L.length) L.length ((List.replicate L.length 0).map u64V) by rw [← hw1]; exact marks_own w L.length w.heap.size (Nat.le_refl _) (by omega))
          have HB0 := Lib.hid (show Below w.heap.size w w1 by rw [← hw1]; exact ((Below.refl _ _).alloc (Nat.le_refl _) _).trans (below_drew1 _ _))
          rw [hw1]
          have HML := Lib.hid (mask_lt HRT.out)
          obtain ⟨whole, hwh⟩ : ∃ m, mask T = m := ⟨_, rfl⟩
          rw [hwh] at HML ⊢
          have HWH := Lib.hid hwh
          clear hw1 hmk M1 M2 hwh
          go_wp2
          go_loopw [31] (fun i wr => ∃ k : Nat, k ≤ L.length ∧ i = .int .i64 k ∧ wr.ownsRow w.heap.size 53 1 (.slice (some ⟨w.heap.size, 0, none⟩) L.length L.length) L.length ((((L.take k).map mask) ++ List.replicate (L.length - k) 0).map u64V) ∧ Below w.heap.size w wr) (fun i _ => L.length - (intOf i).toNat)
          case atStart => exact ⟨0, Nat.zero_le _, rfl, by simpa using HO0.out, HB0.out⟩
          case round =>
            obtain ⟨k, hk, rfl, hown, hB⟩ := hrel
            obtain ⟨wk, rfl⟩ : ∃ x, x = wr := ⟨_, rfl⟩
            have HO := Lib.hid hown
            have HB := Lib.hid hB
            clear hown HO0 HB0
            by_cases hlt : k < L.length
            · obtain ⟨b, off, u, c, rfl, hb, hcell, hx⟩ := (HV.out.below hB).elem hlt
              have hR := HRL.out _ (List.getElem_mem hlt)
              have hlen := HS.out _ (List.getElem_mem hlt)
              have HTK := Lib.hid (List.take_succ_eq_append_getElem hlt)
              obtain ⟨x, hxx⟩ : ∃ x, L[k] = x := ⟨_, rfl⟩
              rw [hxx] at hcell hx hR hlen HTK
              have M := Lib.hid (mark_any x hR _ wk hx hlen)
              have hdl : ((L.take k).map mask).length = k := by rw [List.length_map, List.length_take]; omega
              have hrow := HO.out.cellAt k (by omega)
              rw [row_at hdl hlt] at hrow
              have hfz := HO.out.frozenAt k
              have HDL := Lib.hid hdl
              clear hxx hx hR hB hdl
              go_wp2_with fail
              refine M.out.mono ?_
              rintro e w2 ⟨rfl, rfl⟩
              go_wp2
              go_roundw
              case rel =>
                refine ⟨k + 1, by omega, by go_num, ?_, HB.out.setCell (p := ⟨w.heap.size, k, none⟩) (Nat.le_refl _) _⟩
                have h1 := (HO.out.stored k (u64V (mask x))).1
                rw [row_set HDL.out hlt] at h1
                rw [HTK.out, show (L.take k ++ [x]).map mask = (L.take k).map mask ++ [mask x] by simp]
                exact h1
              case measure => simp [intOf]; omega
            · obtain rfl : k = L.length := by omega
              rw [List.take_length, Nat.sub_self, List.replicate_zero, List.append_nil] at HO
              have hPl : (L.map mask).length = L.length := by simp
              have hPm : ∀ m ∈ L.map mask, m < 18446744073709551616 := fun m h => by
                obtain ⟨l, h1, rfl⟩ := List.mem_map.1 h
                exact mask_lt (HRL.out l h1)
              have hcell0 : ∀ j (h : j < (L.map mask).length), wk.cell? ⟨w.heap.size, j, none⟩ = some (u64V (L.map mask)[j]) := fun j h => by
                rw [HO.out.cellAt j (by omega), List.getElem?_map, List.getElem?_eq_getElem h]; rfl
              have hlt0 : w.heap.size < wk.heap.size := (HO.out.lt _ rfl).2
              have HBEST := Lib.hid (fun (k : Nat) (c : List Nat) (h : FirstG (L.map mask) whole 0 0 k c) (hn : ∀ j, j < k → ∀ c, ¬ Good (L.map mask) whole 0 0 j c) => best_first HRT.out HRL.out (by rw [HWH.out]; exact h) (by rw [HWH.out]; exact hn))
              have HNONE := Lib.hid (fun (h : ∀ j, j < L.length + 1 → ∀ c, ¬ Good (L.map mask) whole 0 0 j c) (c : List Nat) (hc : IsCov T L c) => h c.length (by have := asc_len hc.1 (Nat.zero_le _); omega) c (by rw [← HWH.out]; exact (good_cov HRT.out HRL.out _ c).2 ⟨hc, rfl⟩))
              obtain ⟨P, hP⟩ : ∃ P, L.map mask = P := ⟨_, rfl⟩
              rw [hP] at hPl hPm hcell0 HBEST HNONE
              have HPM := Lib.hid (And.intro hPl (And.intro hPm (And.intro hcell0 hlt0)))
              have hw1 : IntKind.i64.wrap ((L.length : Int) + 1) = ((L.length + 1 : Nat) : Int) := IntWalk.i64_in _ (by omega)
              obtain ⟨n1, hn1⟩ : ∃ n1, L.length + 1 = n1 := ⟨_, rfl⟩
              have HN1 := Lib.hid hn1
              rw [hn1] at hw1
              have hn17 : n1 ≤ 17 := by omega
              clear hPl hPm hcell0 hlt0 hP HO hB hn1
              go_wp2
              go_loopw [45] (fun i wr => ∃ k : Nat, k ≤ n1 ∧ i = .int .i64 k ∧ Below w.heap.size w wr ∧ w.heap.size < wr.heap.size ∧ (∀ j (h : j < P.length), wr.cell? ⟨w.heap.size, j, none⟩ = some (u64V P[j])) ∧ ∀ j, j < k → ∀ c, ¬ Good P whole 0 0 j c) (fun i _ => n1 - (intOf i).toNat)
              case atStart => exact ⟨0, Nat.zero_le _, rfl, HB.out, HPM.out.2.2.2, HPM.out.2.2.1, fun j h => absurd h (by omega)⟩
              case round =>
                obtain ⟨k, hk, rfl, hB, hsz, hcells, hno⟩ := hrel
                obtain ⟨wj, rfl⟩ : ∃ x, x = wr := ⟨_, rfl⟩
                have HBJ := Lib.hid hB
                have HNO := Lib.hid hno
                by_cases hlt : k < n1
                · have hcall := firstCover_any P HPM.out.2.1 (by rw [HPM.out.1]; omega) whole HML.out k (by have := HN1.out; omega) w.heap.size wj hsz hcells
                  rw [HPM.out.1] at hcall
                  have HC := Lib.hid hcall
                  have HCL := Lib.hid hcells
                  have HSZ := Lib.hid hsz
                  clear hcall hcells hB hno hsz
                  go_wp2_with fail
                  refine HC.out.mono ?_
                  rintro e w2 ⟨v, r, rfl, hb, h⟩
                  have HB2 := Lib.hid (HBJ.out.trans (hb.mono (by have := HSZ.out; omega)))
                  have HBB := Lib.hid hb
                  clear hb HC
                  rcases h with ⟨rfl, c, hF, hI⟩ | ⟨rfl, hNo, rfl⟩
                  · have HF := Lib.hid hF
                    have HI := Lib.hid hI
                    obtain ⟨a, cap, rfl, _⟩ := hI
                    clear hF
                    go_wp2
                    go_ret2
                    exact ⟨_, .inr (.inr ⟨HOK.out.1, HOK.out.2, .inl ⟨c, HBEST.out k c HF.out HNO.out, rfl⟩⟩), ListPost.good rfl HI.out HB2.out⟩
                  · have HNo := Lib.hid hNo
                    clear hNo
                    go_wp2
                    go_roundw
                    case rel =>
                      refine ⟨k + 1, by omega, by go_num, HB2.out, Nat.lt_of_lt_of_le HSZ.out HBB.out.size, fun j h => (HBB.out.cell (p := ⟨w.heap.size, j, none⟩) HSZ.out).trans (HCL.out j h), fun j hj => ?_⟩
                      by_cases e : j = k
                      · subst e; exact HNo.out
                      · exact HNO.out j (by omega)
                    case measure => simp [intOf]; omega
                · obtain rfl : k = n1 := by omega
                  clear hcells hB hno hsz
                  go_wp2
                  go_ret2
                  exact ⟨_, .inr (.inr ⟨HOK.out.1, HOK.out.2, .inr ⟨HNONE.out (by rw [HN1.out]; exact HNO.out), rfl⟩⟩), ListPost.bad rfl HBJ.out⟩
      · have I2 := Lib.hid (areSets_any L false (by simpa using eL) _ w HV.out lL HS.out)
        go_enter Try.func31, Try.ntmps31
        go_wp2_with fail
        refine I1.out.mono ?_
        rintro e w1 ⟨rfl, rfl⟩
        go_wp2_with fail
        refine I2.out.mono ?_
        rintro e w1 ⟨rfl, rfl⟩
        clear I1 I2
        go_wp2
        go_ret2
        exact ⟨_, .inr (.inl ⟨h16, .inr (Classical.byContradiction fun hc => eL fun l h1 => Classical.byContradiction fun h2 => hc ⟨l, h1, h2⟩), rfl⟩), ListPost.bad rfl (Below.refl _ _)⟩
    · have I1 := Lib.hid (isSet_any T false (by simpa using eT) _ w HT.out lT)
      go_enter Try.func31, Try.ntmps31
      go_wp2_with fail
      refine I1.out.mono ?_
      rintro e w1 ⟨rfl, rfl⟩
      clear I1
      go_wp2
      go_ret2
      exact ⟨_, .inr (.inl ⟨h16, .inl eT, rfl⟩), ListPost.bad rfl (Below.refl _ _)⟩
end Go.Proofs.Ytdplcpnahahkaaa
