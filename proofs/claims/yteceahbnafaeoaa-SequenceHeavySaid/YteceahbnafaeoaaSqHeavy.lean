/- SequenceHeavy: the law's walk. -/
import Derived.Test.YteceahbnafaeoaaSqHeavyM
namespace Go.Proofs.Yteceahbnafaeoaa
set_option linter.unusedSimpArgs false
set_option linter.unusedVariables false
set_option maxRecDepth 100000
open Go.RowKit Go.Deep

theorem max3 (W : World) : (Builtin.max_ #[25, 25, 25] 25 #[.int .i64 0, .int .i64 0, .int .i64 0]).run Try.prog W = .ok (.int .i64 0) W := by rfl
theorem toW_rep (n c : Nat) : toW (List.replicate n (c : Int)) = List.replicate n c := by simp [toW]
theorem inB_len {l ws : List Int} (h : l.length = ws.length) {x : Int} (hx : inB l x = true) : inB ws x = true := by
  unfold inB at hx ⊢; rw [← h]; exact hx
theorem sum_bound (l ws : List Int) (hl : l.length = ws.length) (h12 : l.length ≤ 12) (hw : ∀ x ∈ ws, 0 ≤ x ∧ x ≤ 255) : ∀ c : List Int, (∀ x ∈ c, inB l x = true) → sumW (toW ws) c ≤ 255 * c.length
  | [], _ => Nat.le_refl _
  | i :: c, h => by
    have ih := sum_bound l ws hl h12 hw c fun x hx => h x (by simp [hx])
    obtain ⟨q, hq, hql⟩ := inB_nat (h i (by simp))
    have hq2 : q < ws.length := by omega
    have hx := hw ws[q] (List.getElem_mem hq2)
    have e : sumW (toW ws) (i :: c) = ws[q].toNat + sumW (toW ws) c := by
      unfold sumW
      rw [List.map_cons, List.sum_cons, hq, Int.toNat_natCast]
      congr 1
      rw [List.getD_eq_getElem?_getD]
      simp [toW, hq2]
    rw [e, List.length_cons]; omega
set_option maxHeartbeats 8000000 in
theorem heavy_law (H : SqOk) (l ws : List Int) (v u : Value) (w : World) (f m : Nat) (hf : f ≤ 255) (hm : m < 65536) (hv : IntsAt w v l) (hu : U8At w u ws) (hr : R64 l) (hw : ∀ x ∈ ws, 0 ≤ x ∧ x ≤ 255) (hl : l.length ≤ maxLen) (hul : ws.length ≤ maxLen) :
    Calls Try.prog 7 #[v, u, .int .u8 f, .int .u16 m] w fun e w' => e = .returned (.bool true) ∧ Below w.heap.size w w' := by
  obtain ⟨a, cap, rfl⟩ := hv.slice
  obtain ⟨au, cu, rfl⟩ := hu.slice
  have HV := Lib.hid hv
  have HU := Lib.hid hu
  by_cases h12 : 12 < l.length
  · clear hv hu hr
    have hb : decide ((12 : Int) < (l.length : Int)) = true := decide_eq_true (by omega)
    unfold maxLen at hl
    go_enter Try.func7, Try.ntmps7
    go_wp2_with fail
    refine (awake_any H w).mono ?_
    rintro e w1 ⟨rfl, h1⟩
    have B := Lib.hid h1
    clear h1
    go_wp2
    go_ret
    exact ⟨rfl, B.out⟩
  · have hb : decide ((12 : Int) < (l.length : Int)) = false := decide_eq_false (by omega)
    by_cases hlen : ws.length = l.length
    · have hne : ((ws.length : Int) != (l.length : Int)) = false := by rw [hlen]; simp
      obtain ⟨i0, hi, hz0, hz1, hz2⟩ := info_parts info_int
      obtain ⟨n, hn⟩ : ∃ n, ws.length = n := ⟨_, rfl⟩
      have hn12 : n ≤ 12 := by omega
      have HN := Lib.hid (And.intro hn (show l.length = n by omega))
      have HW := Lib.hid hw
      have hwr : R64 ws := fun x hx => by have := hw x hx; omega
      have hcr : R64 (List.replicate ws.length (1 + (f : Int))) := fun x hx => by rw [List.eq_of_mem_replicate hx]; omega
      have e1 : incE l = (incR l, 0) := by unfold incE; rw [if_neg (by omega)]
      have CI := Lib.hid (fun W h => H.incr l (.slice a l.length cap) W h hr hl)
      rw [e1] at CI
      have hl12 : l.length ≤ 12 := by omega
      have hmax : ∀ q : Nat, q ≤ 12 → q ≤ maxLen := fun q h => by unfold maxLen; omega
      have CEQ := Lib.hid (show ∀ (u : Value) (W : World), IntsAt W (.slice a l.length cap) l → IntsAt W u (List.replicate ws.length (1 + (f : Int))) → Calls Try.prog 28 #[.slice a l.length cap, u] W (WtdPost (incR l, (incR l).length * (1 + (f : Int)), 0) W) from fun u W h1 h2 => by
        have h := H.wtd l (List.replicate ws.length (1 + (f : Int))) _ u W h1 h2 hr hcr hl (hmax _ (by rw [List.length_replicate]; omega))
        have e : wtdE l (List.replicate ws.length (1 + (f : Int))) = (incR l, (incR l).length * (1 + (f : Int)), 0) := by
          have e0 : (1 + (f : Int)) = ((1 + f : Nat) : Int) := by omega
          obtain ⟨f1, f2⟩ := first_same (c := 1 + f) (by omega) l
          unfold wtdE
          rw [if_neg (by omega), if_neg (by rw [List.length_replicate]; omega), if_pos (by
            unfold wOk
            rw [List.all_eq_true]
            intro x hx
            rw [List.eq_of_mem_replicate hx, decide_eq_true (by omega), decide_eq_true (by omega)]; rfl), e0, toW_rep, hlen, f1, f2, Nat.mul_comm]
          simp
        rw [e] at h
        exact h)
      have CWS := Lib.hid (show ∀ (u : Value) (W : World), IntsAt W (.slice a l.length cap) l → IntsAt W u ws → Calls Try.prog 28 #[.slice a l.length cap, u] W (WtdPost (firstR l (toW ws), mostR l (toW ws), 0) W) from fun u W h1 h2 => by
        have h := H.wtd l ws _ u W h1 h2 hr hwr hl hul
        have e : wtdE l ws = (firstR l (toW ws), (mostR l (toW ws) : Int), 0) := by
          unfold wtdE
          rw [if_neg (by omega), if_neg (by omega), if_pos (by
            unfold wOk
            rw [List.all_eq_true]
            intro x hx
            have := hw x hx
            rw [decide_eq_true (by omega), decide_eq_true (by omega)]; rfl)]
        rw [e] at h
        exact h)
      have HLEN := Lib.hid hlen
      have hinc : incB l (firstR l (toW ws)) = true := inc_ok l (toW ws)
      have HINC := Lib.hid hinc
      have HSUM := Lib.hid (first_sum l (toW ws))
      have hfl : (firstR l (toW ws)).length ≤ 12 := by
        have h1 := (pk_good (its 0 l (toW ws)) none 0 (asc_its _ _ _) _ rfl).1.length_le
        have h2 := its_len 0 l (toW ws) (by rw [toW_len, hlen])
        have h3 : (firstR l (toW ws)).length = (pk none (best none (its 0 l (toW ws))) (its 0 l (toW ws))).length := by simp [firstR, idx, firstZ]
        omega
      have hil : (incR l).length ≤ 12 := by have := lis_le l; rw [inc_len]; omega
      have HCH := Lib.hid (fun hi => choice_heavy m l (toW ws) (by rw [toW_len, hlen]) hi)
      have CR := Lib.hid (fun W h => rises_any l m hm (by omega) (.slice a l.length cap) W h)
      have hbl : (chosen m l.length).length ≤ 12 := by have := chosen_len m l.length; omega
      have HSB := Lib.hid (fun c hc => sum_bound l ws hlen.symm (by omega) hw c hc)
      have HWS := Lib.hid (fun c r hr hc hcl R vw v W h1 h2 h3 => sum_any ws c r hr hw hc hcl (by omega) R vw v W h1 h2 h3)
      have HINL := Lib.hid (fun x hx => inB_len (l := l) (ws := ws) hlen.symm (x := x) hx)
      obtain ⟨A, hAA⟩ : ∃ A, incR l = A := ⟨_, rfl⟩
      obtain ⟨F, hFF⟩ : ∃ F, firstR l (toW ws) = F := ⟨_, rfl⟩
      obtain ⟨C, hCC⟩ : ∃ C, chosen m l.length = C := ⟨_, rfl⟩
      obtain ⟨M, hMM⟩ : ∃ M, mostR l (toW ws) = M := ⟨_, rfl⟩
      rw [hAA] at CI CEQ hil
      rw [hFF] at CWS HINC HSUM hfl HCH
      rw [hCC] at HCH CR hbl
      rw [hMM] at CWS HSUM HCH
      clear hv hu hn hn12 hlen hAA hFF hCC hMM hinc hr hwr hcr e1 hmax hl hul h12 hw
      have hwl : ws.length ≤ 12 := by have := HLEN.out; omega
      have hll : l.length ≤ 12 := by omega
      go_enter Try.func7, Try.ntmps7
      go_upto_region 4 with fail
      obtain ⟨R, hR⟩ : ∃ R, w.heap.size = R := ⟨_, rfl⟩
      rw [hR]
      obtain ⟨w0, hw0⟩ : ∃ x, w.alloc (.cells #[.slice none 0 0] 22) = x := ⟨_, rfl⟩
      try rw [hw0]
      have HB0 := Lib.hid (show Below w.heap.size w w0 by rw [← hw0]; exact alloc_below w _)
      have HT0 := Lib.hid (show Two w0 R (.slice none 0 0) [] (.slice none 0 0) [] from ⟨by rw [← hw0, ← hR]; simp, by rw [← hw0, ← hR]; exact World.frozen?_alloc_new w #[.slice none 0 0] 22 0, World.ownsRow_nil _ _ _ _, World.ownsRow_nil _ _ _ _, fun g e => by simp [Value.ownBlock] at e⟩)
      have HRW := Lib.hid hR
      clear hw0 hR
      have hwc : IntKind.i64.wrap (1 + (f : Int)) = 1 + (f : Int) := IntWalk.i64_in _ (by omega)
      go_wp2_with fail
      go_loopw [10, 37] (fun e2 i wr => ∃ k : Nat, ∃ v1 : Value, k ≤ ws.length ∧ i = .int .i64 k ∧ Two wr R v1 (ws.take k) e2 (List.replicate k (1 + (f : Int))) ∧ Below w.heap.size w wr) (fun _ i _ => ws.length - (intOf i).toNat)
      case atStart => exact ⟨0, _, Nat.zero_le _, rfl, HT0.out, HB0.out⟩
      case round =>
        obtain ⟨k, v1, hk, rfl, hT, hB⟩ := hrel
        obtain ⟨wk, rfl⟩ : ∃ x, x = wr := ⟨_, rfl⟩
        have HB := Lib.hid hB
        by_cases hlt : k < ws.length
        · obtain ⟨b, off, rfl, hbb, c0⟩ := HU.out.elem hlt
          have d0 := (hB.cell (p := ⟨b, off + k, none⟩) hbb).trans c0
          have hx := HW.out ws[k] (List.getElem_mem hlt)
          have HTK := Lib.hid (take_succ_int ws k hlt)
          obtain ⟨y, hy⟩ : ∃ y : Nat, ws[k] = y := ⟨ws[k].toNat, by omega⟩
          rw [hy] at d0 hx HTK
          have hy255 : y ≤ 255 := by omega
          have HRP := Lib.hid (show List.replicate (k + 1) (1 + (f : Int)) = List.replicate k (1 + (f : Int)) ++ [1 + (f : Int)] from by rw [List.replicate_succ'])
          have hx1l : (ws.take k).length = k := by rw [List.length_take]; omega
          have hx2l : (List.replicate k (1 + (f : Int))).length = k := List.length_replicate
          obtain ⟨x1, hx1⟩ : ∃ x1, ws.take k = x1 := ⟨_, rfl⟩
          obtain ⟨x2, hx2⟩ : ∃ x2, List.replicate k (1 + (f : Int)) = x2 := ⟨_, rfl⟩
          rw [hx1] at hT HTK hx1l
          rw [hx2] at hT HRP hx2l
          have hx1b : x1.length ≤ 12 := by omega
          have hx2b : x2.length ≤ 12 := by omega
          have hbox := hT.box
          have hfree := hT.free
          have HT := Lib.hid hT
          have HRK := Lib.hid (show R < wk.heap.size from World.block_lt_of_cell? wk ⟨R, 0, none⟩ hT.box)
          have HL1L := Lib.hid (And.intro hx1l hx2l)
          clear hT hB hbb c0 hx hy hx1 hx2 hx1l hx2l
          go_wp2_with (first | (at_builtin; refine wpList_append_lies _ rfl _ _ 22 rfl (R + 1) 3 i0 (.int .i64 0) 1 8 Try.underlying22 hi hz0 hz1 hz2 rfl (by decide) _ _ _ rfl (HT.out.o1.alloc _) ⟨wk.heap.size, 0, none⟩ 1 1 [.int .i64 _] rfl rfl (int_news _ _ _ _ rfl) (by simp [Value.oneCell']) (by decide) (by unfold maxLen; omega) (by omega) (by have := HRK.out; simp; omega) (wk.heap.size + 1) (by simp) ?_; intro g1 cap1 w1 ho1 hg1 hk1 hl1; have HO1 := Lib.hid ho1; have HG1 := Lib.hid hg1; have HK1 := Lib.hid hk1; have HL1 := Lib.hid hl1; have HO2K := Lib.hid (HT.out.keep2 hg1); have HS1 := Lib.hid hg1.size; clear ho1 hg1 hk1 hl1) | (at_builtin; refine wpList_append_lies _ rfl _ _ 22 rfl (R + 1) 3 i0 (.int .i64 0) 1 8 Try.underlying22 hi hz0 hz1 hz2 rfl (by decide) _ _ _ rfl (HO2K.out.alloc _) ⟨w1.heap.size, 0, none⟩ 1 1 [.int .i64 _] rfl rfl (int_news _ _ _ _ rfl) (by simp [Value.oneCell']) (by decide) (by unfold maxLen; omega) (by omega) (by have := HRK.out; have := HS1.out; simp at this ⊢; omega) (w1.heap.size + 1) (by simp) ?_; intro g2 cap2 w2 ho2 hg2 hk2 hl2; obtain ⟨s1, s2, s3, s4⟩ := Two.step HT.out rfl HG1.out HO1.out HK1.out HL1.out rfl hg2 ho2 hk2; have HS3 := Lib.hid s3; have HS4 := Lib.hid s4; clear ho2 hg2 hk2 hl2 s3 s4))
          clear hbox hfree s1 s2 d0
          go_roundw
          case rel => exact ⟨k + 1, _, by omega, by go_num, by rw [HTK.out, HRP.out]; exact HS4.out, (HB.out.trans (show Below w.heap.size wk w2 by rw [HRW.out]; exact HS3.out)).setCell (p := ⟨R, 0, none⟩) (Nat.le_of_eq HRW.out) _⟩
          case measure => simp [intOf]; omega
        · obtain rfl : k = ws.length := by omega
          rw [List.take_length] at hT
          have hv1 := IntsAt.of_own hT.o1
          have hv2 := IntsAt.of_own hT.o2
          obtain ⟨xs2, hxs2⟩ : ∃ x, List.replicate ws.length (1 + (f : Int)) = x := ⟨_, rfl⟩
          rw [hxs2] at hv2
          have HV1 := Lib.hid hv1
          have HV2 := Lib.hid hv2
          have HBX := Lib.hid (And.intro (World.block_lt_of_cell? wk ⟨R, 0, none⟩ hT.box) hT.box)
          have CE := Lib.hid (CEQ.out)
          rw [hxs2] at CE
          clear hT hB hv1 hv2 hxs2
          go_wp2_with fail
          refine (CI.out wk (HV.out.below HB.out)).mono ?_
          rintro e w1 ⟨va, rfl, hi1, h1⟩
          simp only at hi1
          have HA := Lib.hid hi1
          have K1 := Lib.hid h1
          obtain ⟨aa, ca, rfl⟩ := hi1.slice
          obtain ⟨z, hz⟩ : ∃ z, (A.length : Int) * (1 + (f : Int)) = z := ⟨_, rfl⟩
          have hzw : IntKind.i64.wrap ((A.length : Int) * (1 + (f : Int))) = z := by
            rw [← hz]
            refine IntWalk.i64_in _ ⟨?_, ?_⟩
            · have : (0 : Int) ≤ (A.length : Int) * (1 + (f : Int)) := Int.mul_nonneg (by omega) (by omega)
              omega
            · have : (A.length : Int) * (1 + (f : Int)) ≤ 12 * 256 := Int.mul_le_mul (by omega) (by omega) (by omega) (by omega)
              omega
          rw [hz] at CE
          have hzz : (z != z) = false := by simp
          clear hi1 h1 hz
          go_wp2_with fail
          refine (CE.out _ w1 (HV.out.below (HB.out.trans (K1.out.mono HB.out.size))) (HV2.out.below K1.out)).mono ?_
          rintro e w2 ⟨vs, rfl, hi2, h2⟩
          simp only at hi2
          have HS := Lib.hid hi2
          have HA2 := Lib.hid (HA.out.below h2)
          have K2 := Lib.hid (below_then K1.out h2)
          obtain ⟨as', cs', rfl⟩ := hi2.slice
          clear hi2 h2 CE
          have hbx := (K2.out.cell (p := ⟨R, 0, none⟩) HBX.out.1).trans HBX.out.2
          go_wp2_with fail
          clear hbx
          refine (CWS.out v1 w2 (HV.out.below (HB.out.trans (K2.out.mono HB.out.size))) (HV1.out.below K2.out)).mono ?_
          rintro e w3 ⟨vf, rfl, hi3, h3⟩
          simp only at hi3
          have HF3 := Lib.hid hi3
          have HA3 := Lib.hid (HA2.out.below h3)
          have HS3 := Lib.hid (HS.out.below h3)
          have K3 := Lib.hid (below_then K2.out h3)
          obtain ⟨af, cf, rfl⟩ := hi3.slice
          clear hi3 h3
          have hmax := max3
          go_wp2_with fail
          clear hmax
          refine (equal_any A A true (by simp) _ _ w3 HA3.out HS3.out (by omega) (by omega)).mono ?_
          rintro e w4 ⟨rfl, q4, hq4⟩
          have h4 : Below w3.heap.size w3 w4 := by rw [hq4]; exact below_drewN _ _
          have HF4 := Lib.hid (HF3.out.below h4)
          have K4 := Lib.hid (below_then K3.out h4)
          clear h4 hq4
          have hMM : ((M : Int) != (M : Int)) = false := by simp
          go_wp2_with fail
          clear hzz hzw
          have hbx4 := (K4.out.cell (p := ⟨R, 0, none⟩) HBX.out.1).trans HBX.out.2
          refine (HWS.out F M HSUM.out (fun x hx => by
            obtain ⟨i, hi9, rfl⟩ := List.getElem_of_mem hx
            exact HINL.out _ (incB_in HINC.out hi9)) hfl R v1 _ w4 hbx4 (HV1.out.below K4.out) HF4.out).mono ?_
          rintro e w5 ⟨rfl, h5⟩
          have HF5 := Lib.hid (HF4.out.below h5)
          have K5 := Lib.hid (below_then K4.out h5)
          clear h5 hbx4
          go_wp2_with fail
          refine (CR.out w5 (HV.out.below (HB.out.trans (K5.out.mono HB.out.size)))).mono ?_
          rintro e w6 ⟨vb, rfl, hb6, h6⟩
          have HB6 := Lib.hid hb6
          have HF6 := Lib.hid (HF5.out.below h6)
          have K6 := Lib.hid (below_then K5.out h6)
          clear hb6 h6 CR hMM
          obtain ⟨r, hr⟩ : ∃ r, incB l C = r := ⟨_, rfl⟩
          rw [hr] at HB6 HCH ⊢
          have HR := Lib.hid hr
          clear hr
          cases r with
          | false =>
            go_wp2_with fail
            refine (awake_any H w6).mono ?_
            rintro e wz ⟨rfl, hz9⟩
            have BZ := Lib.hid (HB.out.trans ((below_then K6.out hz9).mono HB.out.size))
            clear hz9
            go_wp2
            go_ret
            exact ⟨rfl, BZ.out⟩
          | true =>
            have hbi := HB6.out rfl
            obtain ⟨l1, l2⟩ := HCH.out rfl
            have HBI := Lib.hid hbi
            obtain ⟨ab, cb, rfl⟩ := hbi.slice
            obtain ⟨s, hs⟩ : ∃ s, sumW (toW ws) C = s := ⟨_, rfl⟩
            rw [hs] at l1 l2
            have HSU := Lib.hid (fun (W : World) (h1 : Below wk.heap.size wk W) (h2 : IntsAt W (.slice ab C.length cb) C) => HWS.out C s hs (fun x hx => by
              obtain ⟨i, hi9, rfl⟩ := List.getElem_of_mem hx
              exact HINL.out _ (incB_in HR.out hi9)) hbl R v1 _ W ((h1.cell (p := ⟨R, 0, none⟩) HBX.out.1).trans HBX.out.2) (HV1.out.below h1) h2)
            have L2 := Lib.hid l2
            clear hbi l2 hs
            go_wp2_with fail
            refine (HSU.out w6 K6.out HBI.out).mono ?_
            rintro e w7 ⟨rfl, h7⟩
            have HBI7 := Lib.hid (HBI.out.below h7)
            have HF7 := Lib.hid (HF6.out.below h7)
            have K7 := Lib.hid (below_then K6.out h7)
            clear h7
            by_cases hsm : s < M
            · have t1 : decide ((s : Int) < (M : Int)) = true := decide_eq_true (by omega)
              go_wp2_with fail
              refine (awake_any H w7).mono ?_
              rintro e wz ⟨rfl, hz9⟩
              have BZ := Lib.hid (HB.out.trans ((below_then K7.out hz9).mono HB.out.size))
              clear hz9
              go_wp2
              go_ret
              exact ⟨rfl, BZ.out⟩
            · have hsM : s = M := by omega
              have t1 : decide ((s : Int) < (M : Int)) = false := decide_eq_false (by omega)
              have t2 : ((s : Int) == (M : Int)) = true := by rw [hsM]; simp
              obtain ⟨y, hy⟩ : ∃ y, lexI F C = y := ⟨_, rfl⟩
              have hy0 : y ≤ 0 := by rw [← hy]; exact lex_cmp _ _ (L2.out hsM)
              clear hsM
              go_wp2_with fail
              refine (HSU.out w7 K7.out HBI7.out).mono ?_
              rintro e w8 ⟨rfl, h8⟩
              have HBI8 := Lib.hid (HBI7.out.below h8)
              have HF8 := Lib.hid (HF7.out.below h8)
              have K8 := Lib.hid (below_then K7.out h8)
              have CC := Lib.hid (compare_any F C y hy _ _ w8 HF8.out HBI8.out (by omega) (by omega))
              clear h8 hy
              go_wp2_with fail
              refine CC.out.mono ?_
              rintro e w9 ⟨rfl, rfl⟩
              go_wp2_with fail
              refine (awake_any H w8).mono ?_
              rintro e wz ⟨rfl, hz9⟩
              have BZ := Lib.hid (HB.out.trans ((below_then K8.out hz9).mono HB.out.size))
              clear hz9
              go_wp2
              go_ret
              exact ⟨rfl, BZ.out⟩
    · have hne : ((ws.length : Int) != (l.length : Int)) = true := by rw [bne_iff_ne]; omega
      clear hv hu hr
      go_enter Try.func7, Try.ntmps7
      go_wp2_with fail
      refine (awake_any H w).mono ?_
      rintro e w1 ⟨rfl, h1⟩
      have B := Lib.hid h1
      clear h1
      go_wp2
      go_ret
      exact ⟨rfl, B.out⟩
end Go.Proofs.Yteceahbnafaeoaa
