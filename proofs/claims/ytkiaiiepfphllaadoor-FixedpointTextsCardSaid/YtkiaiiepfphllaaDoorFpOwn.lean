/- Sum and Distribute of layer 2's own code. -/
import Derived.Test.YtkiaiiepfphllaaDoorFpProg
namespace Go.Proofs.YtkiaiiepfphllaaDoor
set_option linter.unusedSimpArgs false
set_option linter.unusedVariables false
set_option maxRecDepth 100000
open Go.RowKit

set_option maxHeartbeats 1000000 in
theorem sum_any (zs : List Int) (v : Value) (w : World) (hv : IntsAt w v zs) (hl : zs.length ≤ 9223372036854775807) :
    Calls Tryd.prog 18 #[v] w fun e w' => e = .returned (pairV (sumR zs)) ∧ w = w' := by
  obtain ⟨a, cap, rfl, hc⟩ := hv
  have HC := Lib.hid hc
  clear hc
  by_cases hbig : 4096 < zs.length
  · rw [sumR, if_pos hbig]
    go_enter Tryd.func18, Tryd.ntmps18
    go_wp2
    go_ret2
    exact ⟨rfl, rfl⟩
  · rw [sumR, if_neg hbig]
    obtain ⟨res, hres⟩ : ∃ res, (if zs.all isLen then (if isLen (sumZ zs) then (sumZ zs, 0) else (0, 4)) else (0, 2) : Int × Int) = res := ⟨_, rfl⟩
    rw [hres]
    have HR := Lib.hid hres
    clear hres
    go_enter Tryd.func18, Tryd.ntmps18
    go_wp2
    go_loop [4, 12] (fun x i => ∃ k : Nat, k ≤ zs.length ∧ i = .int .i64 k ∧ x = .int .i64 (sumZ (zs.take k)) ∧ (zs.take k).all isLen = true) (fun _ i => zs.length - (intOf i).toNat)
    case atStart => exact ⟨0, Nat.zero_le _, rfl, rfl, rfl⟩
    case round =>
      obtain ⟨k, hk, rfl, rfl, hall⟩ := hrel
      have hb := sumZ_bd (zs.take k) 4096 (by rw [List.length_take]; omega) hall
      have HA := Lib.hid hall
      clear hall
      obtain ⟨sm, hsm⟩ : ∃ sm, sumZ (zs.take k) = sm := ⟨_, rfl⟩
      rw [hsm] at hb ⊢
      have HS := Lib.hid hsm
      clear hsm
      by_cases hlt : k < zs.length
      · obtain ⟨b, off, rfl, hbb, hcs⟩ := HC.out (by omega)
        have hcell := hcs k hlt
        clear hcs
        obtain ⟨x, hx⟩ : ∃ x, zs[k] = x := ⟨_, rfl⟩
        rw [hx] at hcell
        have HX := Lib.hid hx
        clear hx
        by_cases hok : isLen x = true
        · have hxb := isLen_bd hok
          have HK : chkN x = 0 := by rw [chkN, hok]; rfl
          have HKK := Lib.hid HK
          have HOK := Lib.hid hok
          clear HK hok
          go_wp2_with (go_at_call 15; refine (chk_at x 0 HKK.out _).mono ?_; rintro e w' ⟨rfl, rfl⟩)
          go_round
          case rel =>
            refine ⟨k + 1, by omega, by go_num, ?_, ?_⟩
            · rw [take_succ_int zs k hlt, sumZ_snoc, HS.out, HX.out]
            · rw [take_succ_int zs k hlt, List.all_append, HA.out, HX.out]; simp [HOK.out]
          case measure => simp [intOf]; omega
        · have HK : chkN x = 2 := by rw [chkN, if_neg hok]
          have hres2 : res = (0, 2) := by
            rw [← HR.out, if_neg]
            intro hall
            rw [List.all_eq_true] at hall
            exact hok (by rw [← HX.out]; exact hall _ (List.getElem_mem hlt))
          have HKK := Lib.hid HK
          have HRR := Lib.hid hres2
          clear HK hok hres2
          go_wp2_with (go_at_call 15; refine (chk_at x 2 HKK.out _).mono ?_; rintro e w' ⟨rfl, rfl⟩)
          go_ret2
          exact ⟨ret_pair HRR.out, rfl⟩
      · obtain rfl : k = zs.length := by omega
        have e1 := HS.out
        have e2 := HA.out
        rw [List.take_length] at e1 e2
        have HE : res = (if isLen sm then (sm, 0) else (0, 4)) := by rw [← HR.out, if_pos e2, e1]
        have HEE := Lib.hid HE
        clear e1 e2 HE
        by_cases hok : isLen sm = true
        · have HK : chkN sm = 0 := by rw [chkN, hok]; rfl
          have HKK := Lib.hid HK
          have HOK := Lib.hid hok
          clear HK hok
          go_wp2_with (go_at_call 15; refine (chk_at sm 0 HKK.out _).mono ?_; rintro e w' ⟨rfl, rfl⟩)
          go_ret2
          exact ⟨ret_pair (by rw [HEE.out, if_pos HOK.out]), rfl⟩
        · have HK : chkN sm = 2 := by rw [chkN, if_neg hok]
          have HKK := Lib.hid HK
          have HOK := Lib.hid hok
          clear HK hok
          go_wp2_with (go_at_call 15; refine (chk_at sm 2 HKK.out _).mono ?_; rintro e w' ⟨rfl, rfl⟩)
          go_ret2
          exact ⟨ret_pair (by rw [HEE.out, if_neg HOK.out]), rfl⟩
theorem sum_at (zs : List Int) (r : Int × Int) (h : sumR zs = r) (v : Value) (w : World) (hv : IntsAt w v zs) (hl : zs.length ≤ 9223372036854775807) :
    Calls Tryd.prog 18 #[v] w fun e w' => e = .returned (pairV r) ∧ w = w' := by subst h; exact sum_any zs v w hv hl
theorem own_zero {w1 : World} {base : Nat} {e : TypeId} {v : Value} {n : Nat} (h : w1.ownsRow base e 1 v n (madeCells (Value.cells (.int .i64 0)) (n * 1)).toList) : w1.ownsRow base e 1 v n ((List.replicate n (0 : Int)).map intV) := by
  have e1 : (madeCells (Value.cells (.int .i64 0)) (n * 1)).toList = (List.replicate n (0 : Int)).map intV := by
    rw [Nat.mul_one]; exact (toList_madeCells_one (.int .i64 0) n).trans (by simp [intV])
  rwa [e1] at h
theorem row_at {ds : List Int} {j n : Nat} (hd : ds.length = j) (hj : j < n) : ((ds ++ List.replicate (n - j) 0).map intV)[j]? = some (.int .i64 0) := by
  subst hd
  rw [List.getElem?_map, List.getElem?_append_right (Nat.le_refl _), Nat.sub_self, List.getElem?_replicate, if_pos (by omega)]
  rfl
theorem row_set {ds : List Int} {j n : Nat} {x : Int} (hd : ds.length = j) (hj : j < n) : ((ds ++ List.replicate (n - j) 0).map intV).set j (.int .i64 x) = ((ds ++ [x]) ++ List.replicate (n - (j + 1)) 0).map intV := by
  subst hd
  have e : List.replicate (n - ds.length) (0 : Int) = 0 :: List.replicate (n - (ds.length + 1)) 0 := by
    rw [show n - ds.length = (n - (ds.length + 1)) + 1 by omega, List.replicate_succ]
  rw [e]
  apply List.ext_getElem?
  intro i
  simp [List.getElem?_set, List.getElem?_append, List.getElem?_map, intV]
theorem below_make {w w1 : World} (h : w.grownBy w1 none) : Below w.heap.size w w1 := (Below.refl _ _).grown h (Nat.le_refl _) (fun _ e => by cases e)
set_option maxHeartbeats 2000000 in
theorem dist_any (total : Int) (zs : List Int) (v : Value) (w : World) (hv : IntsAt w v zs) (hl : zs.length ≤ 9223372036854775807) :
    Calls Tryd.prog 22 #[.int .i64 total, v] w (ListPost (distR total zs) w) := by
  obtain ⟨i0, hi, hz0, hz1, hz2⟩ := info_parts info_int
  obtain ⟨res, hres⟩ : ∃ res, distR total zs = res := ⟨_, rfl⟩
  rw [hres]
  rw [distR] at hres
  obtain ⟨a, cap, rfl, hc⟩ := hv
  have HC := Lib.hid hc
  clear hc
  by_cases hbig : 4096 < zs.length
  · rw [if_pos hbig] at hres
    subst hres
    go_enter Tryd.func22, Tryd.ntmps22
    go_wp2
    go_ret2
    exact ListPost.bad rfl
  · rw [if_neg hbig] at hres
    by_cases hlen : isLen total = true
    · rw [if_pos hlen] at hres
      have HR := Lib.hid hres
      clear hres
      have htb := isLen_bd hlen
      have HK := Lib.hid (show chkN total = 0 by rw [chkN, hlen]; rfl)
      clear hlen
      go_enter Tryd.func22, Tryd.ntmps22
      go_wp2_with (go_at_call 15; refine (chk_at total 0 HK.out _).mono ?_; rintro e w' ⟨rfl, rfl⟩)
      go_loop [6, 23] (fun s i => ∃ j : Nat, j ≤ zs.length ∧ i = .int .i64 j ∧ s = .int .i64 (sumZ (zs.take j)) ∧ (zs.take j).all partOk = true) (fun _ i => zs.length - (intOf i).toNat)
      case atStart => exact ⟨0, Nat.zero_le _, rfl, rfl, rfl⟩
      case round =>
        obtain ⟨j, hj, rfl, rfl, hall⟩ := hrel
        have hb := sum_ok (zs.take j) 4096 (by rw [List.length_take]; omega) hall
        have HA := Lib.hid hall
        clear hall
        obtain ⟨sm, hsm⟩ : ∃ sm, sumZ (zs.take j) = sm := ⟨_, rfl⟩
        rw [hsm] at hb ⊢
        have HS := Lib.hid hsm
        clear hsm
        by_cases hlt : j < zs.length
        · obtain ⟨b, off, rfl, hbb, hcs⟩ := HC.out (by omega)
          have hcell := hcs j hlt
          clear hcs
          obtain ⟨x, hx⟩ : ∃ x, zs[j] = x := ⟨_, rfl⟩
          rw [hx] at hcell
          have HX := Lib.hid hx
          clear hx
          by_cases hok : 0 ≤ x ∧ x ≤ 1073741824
          · obtain ⟨x0, x1⟩ := hok
            go_wp2_with (go_at_call 41; refine (size_yes _ (by omega) (by omega) _).mono ?_; rintro e w' ⟨rfl, rfl⟩)
            go_round
            case rel =>
              refine ⟨j + 1, by omega, by go_num, ?_, ?_⟩
              · rw [take_succ_int zs j hlt, sumZ_snoc, HS.out, HX.out]
              · rw [take_succ_int zs j hlt, List.all_append, HA.out, HX.out]; simp [partOk, x0, x1]
            case measure => simp [intOf]; omega
          · have hres2 : res = ([], 2) := by
              rw [← HR.out, if_neg]
              intro hall
              rw [List.all_eq_true] at hall
              have := hall _ (List.getElem_mem hlt)
              rw [HX.out] at this
              simp [partOk] at this
              exact hok this
            have HRR := Lib.hid hres2
            clear hres2
            have HX0 := Lib.hid (show x < 0 ∨ (0 ≤ x ∧ 1073741824 < x) by omega)
            clear hok
            go_wp2_with (go_at_call 41; refine (size_no _ HX0.out _).mono ?_; rintro e w' ⟨rfl, rfl⟩)
            go_ret2
            exact ListPost.bad HRR.out
        · obtain rfl : j = zs.length := by omega
          have e1 := HS.out
          have e2 := HA.out
          rw [List.take_length] at e1 e2
          have HE : res = (if sm ≤ 1073741824 then if sm = 0 then ([], 5) else (distL total sm 0 zs, 0) else ([], 4)) := by rw [← HR.out, if_pos e2, e1]
          by_cases s1 : 1073741824 < sm
          · have HEE := Lib.hid (show res = ([], 4) by rw [HE, if_neg (by omega)])
            clear e1 e2 HE
            go_wp2
            go_ret2
            exact ListPost.bad HEE.out
          · by_cases s0 : sm = 0
            · have HEE := Lib.hid (show res = ([], 5) by rw [HE, if_pos (by omega), if_pos s0])
              clear e1 e2 HE
              subst s0
              go_wp2
              go_ret2
              exact ListPost.bad HEE.out
            · have HEE := Lib.hid (show res = (distL total sm 0 zs, 0) by rw [HE, if_pos (by omega), if_neg s0])
              have HALL := Lib.hid e2
              have HSM := Lib.hid e1
              clear e1 e2 HE HS HA
              have s2 : (sm == 0) = false := by simpa using s0
              have m0 : 1 ≤ sm := by omega
              have m1 : sm ≤ 1073741824 := by omega
              clear hb hj hlt s1
              go_wp2_with (refine wpList_make_full _ rfl _ _ 30 rfl w.heap.size 3 i0 (.int .i64 0) 1 Tryd.underlying30 hi hz0 hz1 .i64 .i64 _ _ zs.length rfl rfl rfl rfl (by rw [hz2]; omega) (by unfold maxLen; omega) (by omega) ?_; intro w1 hown1 hgrow1; have HO1 := Lib.hid (own_zero hown1); have HB1 := Lib.hid (below_make hgrow1); clear hown1 hgrow1)
              go_loopw [10, 11, 43] (fun s gv i wr => ∃ j : Nat, j ≤ zs.length ∧ i = .int .i64 j ∧ s = .int .i64 (sumZ (zs.take j)) ∧ gv = .int .i64 (total * sumZ (zs.take j) / sm) ∧ wr.ownsRow w.heap.size 3 1 (.slice (some ⟨w.heap.size, 0, none⟩) zs.length zs.length) zs.length ((distL total sm 0 (zs.take j) ++ List.replicate (zs.length - j) 0).map intV) ∧ Below w.heap.size w wr)
                (fun _ _ i _ => zs.length - (intOf i).toNat)
              case atStart => exact ⟨0, Nat.zero_le _, rfl, rfl, by simp [sumZ], by simpa [distL] using HO1.out, HB1.out⟩
              case round =>
                obtain ⟨j, hj, rfl, rfl, rfl, hown, hB⟩ := hrel
                have hdl := distL_len total sm (zs.take j) 0
                rw [List.length_take, Nat.min_eq_left hj] at hdl
                obtain ⟨p0, _⟩ := sum_ok (zs.take j) _ (Nat.le_refl _) (by have := HALL.out; rw [List.all_eq_true] at this ⊢; exact fun x hx => this x (List.mem_of_mem_take hx))
                have p1 := sum_take_le zs j HALL.out
                rw [HSM.out] at p1
                obtain ⟨ds, hds⟩ : ∃ ds, distL total sm 0 (zs.take j) = ds := ⟨_, rfl⟩
                rw [hds] at hown hdl
                obtain ⟨s, hs⟩ : ∃ s, sumZ (zs.take j) = s := ⟨_, rfl⟩
                rw [hs] at p0 p1 ⊢
                have HDS := Lib.hid hds
                have HSS := Lib.hid hs
                have HO := Lib.hid hown
                clear hds hs hown
                obtain ⟨a1, a2⟩ := prod_bd total s htb.1 htb.2 p0 (by omega)
                obtain ⟨u1, hu1⟩ : ∃ u, total * s = u := ⟨_, rfl⟩
                rw [hu1] at a1 a2 ⊢
                obtain ⟨f1, hf1⟩ : ∃ f, u1 / sm = f := ⟨_, rfl⟩
                obtain ⟨c1, c2⟩ := quot_bd u1 sm a1 a2 m0
                rw [hf1] at c1 c2 ⊢
                have HU1 := Lib.hid hu1
                have HF1 := Lib.hid hf1
                clear hu1 hf1
                by_cases hlt : j < zs.length
                · obtain ⟨b, off, rfl, hbb, hcs⟩ := HC.out (by omega)
                  have hcell := hcs j hlt
                  clear hcs
                  have hcell' : wr.cell? ⟨b, off + j, none⟩ = some (.int .i64 zs[j]) := (hB.cell (p := ⟨b, off + j, none⟩) hbb).trans hcell
                  clear hcell
                  have hpo := (List.all_eq_true.1 HALL.out) zs[j] (List.getElem_mem hlt)
                  have q1 := sum_take_le zs (j + 1) HALL.out
                  rw [HSM.out, take_succ_int zs j hlt, sumZ_snoc, HSS.out] at q1
                  obtain ⟨x, hx⟩ : ∃ x, zs[j] = x := ⟨_, rfl⟩
                  rw [hx] at hcell' hpo q1
                  have HX := Lib.hid hx
                  clear hx
                  simp [partOk] at hpo
                  obtain ⟨x0, x1⟩ := hpo
                  obtain ⟨b1, b2⟩ := prod_bd total (s + x) htb.1 htb.2 (by omega) (by omega)
                  obtain ⟨u2, hu2⟩ : ∃ u, total * (s + x) = u := ⟨_, rfl⟩
                  rw [hu2] at b1 b2
                  obtain ⟨f2, hf2⟩ : ∃ f, u2 / sm = f := ⟨_, rfl⟩
                  obtain ⟨d1, d2⟩ := quot_bd u2 sm b1 b2 m0
                  rw [hf2] at d1 d2
                  have HU2 := Lib.hid hu2
                  have HF2 := Lib.hid hf2
                  clear hu2 hf2
                  have ht : distL total sm 0 (zs.take (j + 1)) = ds ++ [f2 - f1] := by
                    rw [take_succ_int zs j hlt, distL_snoc, HDS.out, HSS.out, HX.out, Int.zero_add, HU1.out, HU2.out, HF1.out, HF2.out]
                  have HT := Lib.hid ht
                  clear ht
                  have HC2 := Lib.hid (div_at u2 sm f2 HF2.out (by omega) (by omega) (by omega) (by omega))
                  have hw2 : IntKind.i64.wrap (total * (s + x)) = u2 := by rw [HU2.out]; exact IntWalk.i64_in _ (by omega)
                  have hrow := HO.out.cellAt j (by omega)
                  rw [row_at hdl hlt] at hrow
                  have hfz := HO.out.frozenAt j
                  go_wp2_with (go_at_call 42; refine (HC2.out _).mono ?_; rintro e w' ⟨rfl, rfl⟩; clear hw2)
                  go_roundw
                  case rel =>
                    refine ⟨j + 1, by omega, by go_num, ?_, ?_, ?_, hB.setCell (by simp) _⟩
                    · rw [take_succ_int zs j hlt, sumZ_snoc, HSS.out, HX.out]
                    · rw [take_succ_int zs j hlt, sumZ_snoc, HSS.out, HX.out, HU2.out, HF2.out]
                    · have h1 := (HO.out.stored j (.int .i64 (f2 - f1))).1
                      rw [HT.out]
                      rw [row_set hdl hlt] at h1
                      exact h1
                  case measure => simp [intOf]; omega
                · obtain rfl : j = zs.length := by omega
                  go_wp2
                  go_ret2
                  have h1 := HO.out
                  rw [← HDS.out, List.take_length, Nat.sub_self, List.replicate_zero, List.append_nil] at h1
                  exact ListPost.own HEE.out h1 hB
    · rw [if_neg hlen] at hres
      subst hres
      have HK := Lib.hid (show chkN total = 2 by rw [chkN, if_neg hlen])
      clear hlen
      go_enter Tryd.func22, Tryd.ntmps22
      go_wp2_with (go_at_call 15; refine (chk_at total 2 HK.out _).mono ?_; rintro e w' ⟨rfl, rfl⟩)
      go_ret2
      exact ListPost.bad rfl
end Go.Proofs.YtkiaiiepfphllaaDoor
