/- Stage 10 (transcript): TrRefE, put together by merge10.py. -/
import Derived.Test.YtmfcepfagbkceaaGreatDoorOu
namespace Go.Proofs.YtmfcepfagbkceaaGreatDoor
set_option linter.unusedSimpArgs false
set_option linter.unusedVariables false
set_option maxRecDepth 100000
open Go.RowKit Go.Shelf Go.Deep
set_option maxHeartbeats 8000000 in
theorem refPrint10_any : ∀ (N : Nat) (l : List Nd), tots l ≤ N → tots l ≤ 5000 → ∀ (pb wi : Bool), allL pb wi l = 0 → ∀ (r : Bs), outL l = r → ∀ (v : Value) (P : Nat → Prop) (w : World), VsAt w P v l →
    Calls Tryz.prog 50 #[v] w fun e w' => e = .returned (sV r) ∧ Below w.heap.size w w' := by
  intro N
  induction N using Nat.strongRecOn with
  | _ N ih =>
    intro l hN hM pb wi hal r hr v P w hv
    have HV := Lib.hid hv
    obtain ⟨a, c, rfl, _⟩ := hv
    have IH := Lib.hid ih
    have HR := Lib.hid hr
    have HAL := Lib.hid hal
    have hll := len_tots l
    have hbig := out_big hal
    have hbg : (outL l).length ≤ 350000000 := by omega
    clear ih hr hbig hal
    go_enter Tryz.func50, Tryz.ntmps50
    go_wp2
    go_loopw [3, 4] (fun sv iv wr => ∃ (j : Nat) (s : Bs), j ≤ l.length ∧ iv = .int .i64 j ∧ sv = sV s ∧ Hid (outL l = s ++ outL (l.drop j) ∧ ∃ b, allL b wi (l.drop j) = 0) ∧ Below w.heap.size w wr) (fun _ iv _ => l.length - (intOf iv).toNat)
    case atStart => exact ⟨0, [], Nat.zero_le _, rfl, rfl, Lib.hid ⟨rfl, pb, HAL.out⟩, Below.refl _ _⟩
    case round =>
      obtain ⟨j, s, hj, rfl, rfl, HT, hB⟩ := hrel
      obtain ⟨wk, rfl⟩ : ∃ x, x = wr := ⟨_, rfl⟩
      have HB := Lib.hid hB
      by_cases hlt : j < l.length
      · obtain ⟨b, off, sa, sc, rfl, hpb, hbb, c1, c2, c3, c4, hx⟩ := HV.out.elem' hlt
        have d1 := (hB.cell (p := ⟨b, off + j * 4, none⟩) hbb).trans c1
        have d2 := (hB.cell (p := ⟨b, off + j * 4 + 1, none⟩) hbb).trans c2
        have d3 := (hB.cell (p := ⟨b, off + j * 4 + 2, none⟩) hbb).trans c3
        have d4 := (hB.cell (p := ⟨b, off + j * 4 + 3, none⟩) hbb).trans c4
        have hvs := parts_at hx hB
        obtain ⟨hs, b0, ha⟩ := HT.out
        obtain ⟨hf, hap, hnx, hst⟩ := print_step hlt ha hs rfl
        have hmt := (tots_mem hlt).1
        have hxt := tot_ps l[j]
        have i0 : (0 : Int) ≤ (j : Int) := by omega
        have i1 : (j : Int) < (l.length : Int) := by omega
        obtain ⟨x, hxe⟩ : ∃ x, l[j] = x := ⟨_, rfl⟩
        rw [hxe] at d1 d2 d3 d4 hvs hf hap hst hmt hxt
        obtain ⟨sp, hsp⟩ : ∃ sp, outL x.ps = sp := ⟨_, rfl⟩
        have HC := Lib.hid (fun W (hW : VsAt W P (.slice sa x.ps.length sc) x.ps) => IH.out (tots x.ps) (by omega) x.ps (Nat.le_refl _) (by omega) false true hap sp hsp _ P W hW)
        rw [hsp] at hst
        have HX := Lib.hid hvs
        have hlen := congrArg List.length hst
        simp only [List.length_append] at hlen
        obtain ⟨xk, xt, xn, xp⟩ := x
        change wk.cell? ⟨b, off + j * 4, none⟩ = some (intV xk) at d1
        change wk.cell? ⟨b, off + j * 4 + 1, none⟩ = some (sV xt) at d2
        change wk.cell? ⟨b, off + j * 4 + 2, none⟩ = some (intV xn) at d3
        change wk.cell? ⟨b, off + j * 4 + 3, none⟩ = some (.slice sa xp.length sc) at d4
        change Fine xk xt xn xp.isEmpty b0 wi at hf
        change outL xp = sp at hsp
        change allL false true xp = 0 at hap
        change VsAt wk P (.slice sa xp.length sc) xp at hvs
        have HC : Hid (∀ W, VsAt W P (.slice sa xp.length sc) xp → Calls Tryz.prog 50 #[.slice sa xp.length sc] W fun e w' => e = .returned (sV sp) ∧ Below W.heap.size W w') := HC
        have HX : Hid (VsAt wk P (.slice sa xp.length sc) xp) := HX
        obtain ⟨W1, hW1⟩ : ∃ X, wk.alloc (.cells #[intV xk, sV xt, intV xn, .slice sa xp.length sc] nT (0, 0)) = X := ⟨_, rfl⟩
        have k1 : W1.heap[wk.heap.size]? = some (.cells #[intV xk, sV xt, intV xn, .slice sa xp.length sc] nT (0, 0)) := by rw [← hW1]; exact World.alloc_heap_new _ _
        have hB1 : Below wk.heap.size wk W1 := by rw [← hW1]; exact below_alloc _ _
        have hs1 : W1.heap.size = wk.heap.size + 1 := by rw [← hW1]; simp
        have HW1 := Lib.hid hW1
        have HB1 := Lib.hid (below_then hB hB1)
        have HX1 := Lib.hid (HX.out.below hB1)
        obtain ⟨e0, e1, e2, e3⟩ := box4T k1
        have hK1 := Lib.hid k1
        have hwr := hB.size
        have z0 : (baL s).size ≤ 350000000 := by rw [baL_size]; omega
        have HNX := Lib.hid hnx
        have HSP := Lib.hid hsp
        clear hnx hvs hx c1 c2 c3 c4 hs ha hsp hmt hxt hap hW1 k1 hB1 hB HX HT
        go_upto_region 6 with fail
        rw [HW1.out]
        clear d1 d2 d3 d4
        by_cases hk : xk = 1
        · have q1 : (xk == 1) = true := by simp [hk]
          have hbe : befN (.mk xk xt xn xp) = xt ∧ behN (.mk xk xt xn xp) = [] := by
            unfold befN behN
            rw [if_pos (show (Nd.mk xk xt xn xp).kd = 1 from hk), if_pos (show (Nd.mk xk xt xn xp).kd = 1 from hk)]
            exact ⟨rfl, rfl⟩
          have hxp : xp = [] := by
            have := fine_text hf hk
            exact List.isEmpty_iff.1 this.2.2.1
          have hsp0 : sp = [] := by rw [← HSP.out, hxp]; rfl
          rw [hbe.1, hbe.2, hsp0] at hst hlen
          have z1 : (baL xt).size ≤ 350000000 := by rw [baL_size]; omega
          have y1 : baL s ++ baL xt = baL (s ++ xt) := baL_append _ _
          have HST := Lib.hid (show outL l = (s ++ xt) ++ outL (l.drop (j + 1)) by rw [hst]; simp)
          clear hst hlen hbe hxp hsp0 hf hk hxe
          go_wp2
          go_roundw
          case rel => exact ⟨j + 1, s ++ xt, by omega, by go_num, rfl, Lib.hid ⟨HST.out, HNX.out⟩, HB1.out⟩
          case measure => simp [intOf]; omega
        · have q1 : (xk == 1) = false := by simpa using hk
          have hkd := fine_kind hf
          have HN := Lib.hid (fun W => refName10_any xk (by omega) W)
          have hnl := nmK_len xk
          have hbi := bef_is (p := xp) hf hk
          obtain ⟨nm, hnm⟩ : ∃ nm, nmK xk = nm := ⟨_, rfl⟩
          rw [hnm] at HN hnl hbi
          clear hnm
          go_wp2_with fail
          refine (HN.out _).mono ?_
          rintro e' w2 ⟨rfl, h2⟩
          have k2 := (h2.block _ (show wk.heap.size < W1.heap.size by omega)).trans hK1.out
          have HB2 := Lib.hid (below_then HB1.out h2)
          have HX2 := Lib.hid (HX1.out.below h2)
          clear e0 e1 e2 e3 h2 hkd
          obtain ⟨e0, e1, e2, e3⟩ := box4T k2
          have HK2 := Lib.hid k2
          clear k2
          have x0 : (baL nm).size ≤ 350000000 := by rw [baL_size]; omega
          have y0 : (⟨#[60]⟩ : ByteArray) ++ baL nm = baL (60 :: nm) := baL_append [60] nm
          obtain ⟨t0, ht0⟩ : ∃ t0, 60 :: nm = t0 := ⟨_, rfl⟩
          have htl0 : t0.length ≤ 8 := by rw [← ht0]; simp; omega
          rw [ht0] at y0
          have x1 : (baL t0).size ≤ 350000000 := by rw [baL_size]; omega
          cases hpk : partsK xk
          · have HXP := Lib.hid (show xp = [] by
              have : xp.isEmpty = true := by
                unfold partsK at hpk
                simp at hpk
                rcases hf with h | h | h | h | h | h | h | h <;> first | exact h.2.2.2.2.2 | exact h.2.2.2.2 | exact h.2.2.2 | (exfalso; omega)
              exact List.isEmpty_iff.1 this)
            cases htb : textsK xk
            · cases hnb : numsK xk
              · obtain ⟨tg, htg⟩ : ∃ tg, tg = t0 := ⟨_, rfl⟩
                rw [← htg] at y0 x1 htl0 ht0
                have htl : tg.length ≤ 70000 := by omega
                clear htg
                have htg := ht0
                have x4 : (baL tg).size ≤ 350000000 := by rw [baL_size]; omega
                obtain ⟨s1, hs1⟩ : ∃ s1, s ++ tg = s1 := ⟨_, rfl⟩
                have y3 : baL s ++ baL tg = baL s1 := by rw [← hs1]; exact baL_append _ _
                obtain ⟨b1, b2⟩ := hbi.1 hpk
                rw [htb, hnb] at b1
                obtain ⟨s2, hs2⟩ : ∃ s2, s1 ++ [47, 62] = s2 := ⟨_, rfl⟩
                have HST := Lib.hid (show outL l = s2 ++ outL (l.drop (j + 1)) by
                  rw [hst, b1, b2, ← HSP.out, HXP.out, ← hs2, ← hs1, ← htg]
                  simp [outL, prn, lexL])
                have hl2 := congrArg List.length HST.out
                have hl1 := congrArg List.length hs1
                have hl3 := congrArg List.length hs2
                simp only [List.length_append] at hl2 hl1 hl3
                have y4 : baL s1 ++ (⟨#[47, 62]⟩ : ByteArray) = baL s2 := by rw [← hs2]; exact baL_append s1 [47, 62]
                have x5 : (baL s1).size ≤ 350000000 := by rw [baL_size]; omega
                clear hst hlen b1 b2 hbi hf hk hxe hl2 htl htg hnl hl1 hl3 hs1 hs2 htl0
                go_wp2_with (first | (go_at_call 78; refine (texts_any xk _ htb _).mono ?_; rintro e5 w5 ⟨rfl, hw5⟩; rw [hw5]; clear hw5 w5) | (go_at_call 79; refine (numbers_any xk _ hnb _).mono ?_; rintro e5 w5 ⟨rfl, hw5⟩; rw [hw5]; clear hw5 w5) | (go_at_call 80; refine (parts_any xk _ hpk _).mono ?_; rintro e5 w5 ⟨rfl, hw5⟩; rw [hw5]; clear hw5 w5) | (go_at_call 74; refine (HIT.out _).mono ?_; rintro e5 w5 ⟨rfl, hw5⟩; rw [hw5]; clear hw5 w5))
                go_roundw
                case rel => exact ⟨j + 1, s2, by omega, by go_num, rfl, Lib.hid ⟨HST.out, HNX.out⟩, HB2.out⟩
                case measure => simp [intOf]; omega
              · have hn : 1 ≤ xn ∧ xn ≤ 64 := by
                  unfold numsK at hnb
                  simp at hnb
                  rcases hf with h | h | h | h | h | h | h | h <;> omega
                obtain ⟨i, rfl⟩ : ∃ i : Nat, xn = (i : Int) := ⟨xn.toNat, by omega⟩
                obtain ⟨vv, hvv⟩ : ∃ vv, Lib.itoa (i : Int) = vv := ⟨_, rfl⟩
                have HIT := Lib.hid (fun W => itoa_any i (by omega) W)
                rw [show ddN i = vv by rw [← hvv, ← dd_eq (by omega)]; unfold Lib.itoa; rw [if_neg (by omega)]; rfl] at HIT
                have hvl : vv.length ≤ 2 := by rw [← hvv, itoa_digs hn.1 (by omega)]; exact digs_len _
                rw [hvv] at hbi
                clear hvv hn
                have x2 : (baL vv).size ≤ 350000000 := by rw [baL_size]; omega
                obtain ⟨t1, ht1⟩ : ∃ t1, t0 ++ [32] = t1 := ⟨_, rfl⟩
                have htl1 : t1.length ≤ 9 := by rw [← ht1]; simp; omega
                have y1 : baL t0 ++ (⟨#[32]⟩ : ByteArray) = baL t1 := by rw [← ht1]; exact baL_append t0 [32]
                have x3 : (baL t1).size ≤ 350000000 := by rw [baL_size]; omega
                obtain ⟨tg, htg⟩ : ∃ tg, t1 ++ vv = tg := ⟨_, rfl⟩
                have y2 : baL t1 ++ baL vv = baL tg := by rw [← htg]; exact baL_append _ _
                have htl : tg.length ≤ 70000 := by rw [← htg, List.length_append]; omega
                have htg : 60 :: nm ++ (32 :: vv) = tg := by rw [← htg, ← ht1, ← ht0]; simp
                clear ht1
                have x4 : (baL tg).size ≤ 350000000 := by rw [baL_size]; omega
                obtain ⟨s1, hs1⟩ : ∃ s1, s ++ tg = s1 := ⟨_, rfl⟩
                have y3 : baL s ++ baL tg = baL s1 := by rw [← hs1]; exact baL_append _ _
                obtain ⟨b1, b2⟩ := hbi.1 hpk
                rw [htb, hnb] at b1
                obtain ⟨s2, hs2⟩ : ∃ s2, s1 ++ [47, 62] = s2 := ⟨_, rfl⟩
                have HST := Lib.hid (show outL l = s2 ++ outL (l.drop (j + 1)) by
                  rw [hst, b1, b2, ← HSP.out, HXP.out, ← hs2, ← hs1, ← htg]
                  simp [outL, prn, lexL])
                have hl2 := congrArg List.length HST.out
                have hl1 := congrArg List.length hs1
                have hl3 := congrArg List.length hs2
                simp only [List.length_append] at hl2 hl1 hl3
                have y4 : baL s1 ++ (⟨#[47, 62]⟩ : ByteArray) = baL s2 := by rw [← hs2]; exact baL_append s1 [47, 62]
                have x5 : (baL s1).size ≤ 350000000 := by rw [baL_size]; omega
                clear hst hlen b1 b2 hbi hf hk hxe hl2 htl htg hnl hl1 hl3 hs1 hs2 htl0
                go_wp2_with (first | (go_at_call 78; refine (texts_any xk _ htb _).mono ?_; rintro e5 w5 ⟨rfl, hw5⟩; rw [hw5]; clear hw5 w5) | (go_at_call 79; refine (numbers_any xk _ hnb _).mono ?_; rintro e5 w5 ⟨rfl, hw5⟩; rw [hw5]; clear hw5 w5) | (go_at_call 80; refine (parts_any xk _ hpk _).mono ?_; rintro e5 w5 ⟨rfl, hw5⟩; rw [hw5]; clear hw5 w5) | (go_at_call 74; refine (HIT.out _).mono ?_; rintro e5 w5 ⟨rfl, hw5⟩; rw [hw5]; clear hw5 w5))
                go_roundw
                case rel => exact ⟨j + 1, s2, by omega, by go_num, rfl, Lib.hid ⟨HST.out, HNX.out⟩, HB2.out⟩
                case measure => simp [intOf]; omega
            · have hnb : numsK xk = false := by
                unfold textsK at htb
                unfold numsK
                simp at htb ⊢
                omega
              have hvl := fine_len hf
              have x2 : (baL xt).size ≤ 350000000 := by rw [baL_size]; omega
              obtain ⟨t1, ht1⟩ : ∃ t1, t0 ++ [32] = t1 := ⟨_, rfl⟩
              have htl1 : t1.length ≤ 9 := by rw [← ht1]; simp; omega
              have y1 : baL t0 ++ (⟨#[32]⟩ : ByteArray) = baL t1 := by rw [← ht1]; exact baL_append t0 [32]
              have x3 : (baL t1).size ≤ 350000000 := by rw [baL_size]; omega
              obtain ⟨tg, htg⟩ : ∃ tg, t1 ++ xt = tg := ⟨_, rfl⟩
              have y2 : baL t1 ++ baL xt = baL tg := by rw [← htg]; exact baL_append _ _
              have htl : tg.length ≤ 70000 := by rw [← htg, List.length_append]; omega
              have htg : 60 :: nm ++ (32 :: xt) = tg := by rw [← htg, ← ht1, ← ht0]; simp
              clear ht1
              have x4 : (baL tg).size ≤ 350000000 := by rw [baL_size]; omega
              obtain ⟨s1, hs1⟩ : ∃ s1, s ++ tg = s1 := ⟨_, rfl⟩
              have y3 : baL s ++ baL tg = baL s1 := by rw [← hs1]; exact baL_append _ _
              obtain ⟨b1, b2⟩ := hbi.1 hpk
              rw [htb, hnb] at b1
              obtain ⟨s2, hs2⟩ : ∃ s2, s1 ++ [47, 62] = s2 := ⟨_, rfl⟩
              have HST := Lib.hid (show outL l = s2 ++ outL (l.drop (j + 1)) by
                rw [hst, b1, b2, ← HSP.out, HXP.out, ← hs2, ← hs1, ← htg]
                simp [outL, prn, lexL])
              have hl2 := congrArg List.length HST.out
              have hl1 := congrArg List.length hs1
              have hl3 := congrArg List.length hs2
              simp only [List.length_append] at hl2 hl1 hl3
              have y4 : baL s1 ++ (⟨#[47, 62]⟩ : ByteArray) = baL s2 := by rw [← hs2]; exact baL_append s1 [47, 62]
              have x5 : (baL s1).size ≤ 350000000 := by rw [baL_size]; omega
              clear hst hlen b1 b2 hbi hf hk hxe hl2 htl htg hnl hl1 hl3 hs1 hs2 htl0
              go_wp2_with (first | (go_at_call 78; refine (texts_any xk _ htb _).mono ?_; rintro e5 w5 ⟨rfl, hw5⟩; rw [hw5]; clear hw5 w5) | (go_at_call 79; refine (numbers_any xk _ hnb _).mono ?_; rintro e5 w5 ⟨rfl, hw5⟩; rw [hw5]; clear hw5 w5) | (go_at_call 80; refine (parts_any xk _ hpk _).mono ?_; rintro e5 w5 ⟨rfl, hw5⟩; rw [hw5]; clear hw5 w5) | (go_at_call 74; refine (HIT.out _).mono ?_; rintro e5 w5 ⟨rfl, hw5⟩; rw [hw5]; clear hw5 w5))
              go_roundw
              case rel => exact ⟨j + 1, s2, by omega, by go_num, rfl, Lib.hid ⟨HST.out, HNX.out⟩, HB2.out⟩
              case measure => simp [intOf]; omega
          · cases htb : textsK xk
            · cases hnb : numsK xk
              · obtain ⟨tg, htg⟩ : ∃ tg, tg = t0 := ⟨_, rfl⟩
                rw [← htg] at y0 x1 htl0 ht0
                have htl : tg.length ≤ 70000 := by omega
                clear htg
                have htg := ht0
                have x4 : (baL tg).size ≤ 350000000 := by rw [baL_size]; omega
                obtain ⟨s1, hs1⟩ : ∃ s1, s ++ tg = s1 := ⟨_, rfl⟩
                have y3 : baL s ++ baL tg = baL s1 := by rw [← hs1]; exact baL_append _ _
                obtain ⟨b1, b2⟩ := hbi.2 hpk
                rw [htb, hnb] at b1
                obtain ⟨s2, hs2⟩ : ∃ s2, s1 ++ [62] = s2 := ⟨_, rfl⟩
                obtain ⟨s3, hs3⟩ : ∃ s3, s2 ++ sp = s3 := ⟨_, rfl⟩
                obtain ⟨s4, hs4⟩ : ∃ s4, s3 ++ [60, 47] = s4 := ⟨_, rfl⟩
                obtain ⟨s5, hs5⟩ : ∃ s5, s4 ++ nm = s5 := ⟨_, rfl⟩
                obtain ⟨s6, hs6⟩ : ∃ s6, s5 ++ [62] = s6 := ⟨_, rfl⟩
                have HST := Lib.hid (show outL l = s6 ++ outL (l.drop (j + 1)) by
                  rw [hst, b1, b2, ← hs6, ← hs5, ← hs4, ← hs3, ← hs2, ← hs1, ← htg]
                  simp)
                have hl2 := congrArg List.length HST.out
                simp only [List.length_append] at hl2
                have g1 := congrArg List.length hs1
                have g2 := congrArg List.length hs2
                have g3 := congrArg List.length hs3
                have g4 := congrArg List.length hs4
                have g5 := congrArg List.length hs5
                have g6 := congrArg List.length hs6
                simp only [List.length_append] at g1 g2 g3 g4 g5 g6
                have y4 : baL s1 ++ (⟨#[62]⟩ : ByteArray) = baL s2 := by rw [← hs2]; exact baL_append s1 [62]
                have x5 : (baL s1).size ≤ 350000000 := by rw [baL_size]; omega
                have y5 : baL s2 ++ baL sp = baL s3 := by rw [← hs3]; exact baL_append _ _
                have x6 : (baL s2).size ≤ 350000000 := by rw [baL_size]; omega
                have x6' : (baL sp).size ≤ 350000000 := by rw [baL_size]; omega
                have y6 : baL s3 ++ (⟨#[60, 47]⟩ : ByteArray) = baL s4 := by rw [← hs4]; exact baL_append s3 [60, 47]
                have x7 : (baL s3).size ≤ 350000000 := by rw [baL_size]; omega
                have y7 : baL s4 ++ baL nm = baL s5 := by rw [← hs5]; exact baL_append _ _
                have x8 : (baL s4).size ≤ 350000000 := by rw [baL_size]; omega
                have y8 : baL s5 ++ (⟨#[62]⟩ : ByteArray) = baL s6 := by rw [← hs6]; exact baL_append s5 [62]
                have x9 : (baL s5).size ≤ 350000000 := by rw [baL_size]; omega
                clear hst hlen b1 b2 hbi hf hk hxe hl2 htl htg hnl g1 g2 g3 g4 g5 g6 hs1 hs2 hs3 hs4 hs5 hs6 htl0
                go_upto_region 15 with (first | (go_at_call 78; refine (texts_any xk _ htb _).mono ?_; rintro e5 w5 ⟨rfl, hw5⟩; rw [hw5]; clear hw5 w5) | (go_at_call 79; refine (numbers_any xk _ hnb _).mono ?_; rintro e5 w5 ⟨rfl, hw5⟩; rw [hw5]; clear hw5 w5) | (go_at_call 80; refine (parts_any xk _ hpk _).mono ?_; rintro e5 w5 ⟨rfl, hw5⟩; rw [hw5]; clear hw5 w5) | (go_at_call 74; refine (HIT.out _).mono ?_; rintro e5 w5 ⟨rfl, hw5⟩; rw [hw5]; clear hw5 w5))
                have HD := Lib.hid (show w2.drew.cell? ⟨wk.heap.size, 0, none⟩ = some (intV xk) ∧ w2.drew.cell? ⟨wk.heap.size, 3, none⟩ = some (.slice sa xp.length sc) from ⟨e0, e3⟩)
                have HBD := Lib.hid (HB2.out.trans (below_drew1S (N := w.heap.size) w2))
                have HXD := Lib.hid (HX2.out.below (below_drew1S (N := w2.heap.size) w2))
                have HKD := Lib.hid (show wk.heap.size < w2.drew.heap.size from heap_ltT HK2.out)
                clear e0 e1 e2 e3
                refine wp_region_noPanic ?_
                refine wp_region_any (by kernel_rfl) (wpAny_of_k (S := fun _ => True) (S' := fun W' => W'.cell? ⟨wk.heap.size, 0, none⟩ = some (intV xk) ∧ W'.cell? ⟨wk.heap.size, 3, none⟩ = some (.slice sa xp.length sc)) (k := 99) _ _ _ _ ?_)
                change wpAnyK _ _ _ _ _ _ _ 15 _ _ w2.drew
                refine wpAnyK_takeD (i := 0) (v := sV s) (some 53) rfl rfl (by kernel_rfl) (by kernel_rfl) (by kernel_rfl) (by decide) (fun _ _ _ h => h) (Or.inl ⟨by rfl, fun w' hw' => ?_⟩) (fun _ => trivial) (HD.out) ?_
                · go_simp
                (try simp only [Act.put, List.setIfInBounds_toArray, List.set_cons_zero, List.set_cons_succ])
                refine wpAnyK_takeD (i := 1) (v := sV tg) (some 54) rfl rfl (by kernel_rfl) (by kernel_rfl) (by kernel_rfl) (by decide) (fun _ _ _ h => h) (Or.inl ⟨by rfl, fun w' hw' => ?_⟩) (fun _ => trivial) (HD.out) ?_
                · go_simp
                (try simp only [Act.put, List.setIfInBounds_toArray, List.set_cons_zero, List.set_cons_succ])
                refine wpAnyK_takeD (i := 2) (v := sV s1) (some 55) rfl rfl (by kernel_rfl) (by kernel_rfl) (by kernel_rfl) (by decide) (fun _ _ _ h => h) (Or.inl ⟨by rfl, fun w' hw' => ?_⟩) (fun _ => trivial) (HD.out) ?_
                · go_simp; omega
                (try simp only [Act.put, List.setIfInBounds_toArray, List.set_cons_zero, List.set_cons_succ])
                refine wpAnyK_takeD (i := 3) (v := sV s2) (some 56) rfl rfl (by kernel_rfl) (by kernel_rfl) (by kernel_rfl) (by decide) (fun _ _ _ h => h) (Or.inl ⟨by rfl, fun w' hw' => ?_⟩) (fun _ => trivial) (HD.out) ?_
                · go_simp; omega
                (try simp only [Act.put, List.setIfInBounds_toArray, List.set_cons_zero, List.set_cons_succ])
                refine wpAnyK_takeD (i := 4) (v := .pointer (some ⟨wk.heap.size, 3, none⟩)) (some 57) rfl rfl (by kernel_rfl) (by kernel_rfl) (by kernel_rfl) (by decide) (fun _ _ _ h => h) (Or.inl ⟨by rfl, fun w' hw' => ?_⟩) (fun _ => trivial) (HD.out) ?_
                · go_simp
                (try simp only [Act.put, List.setIfInBounds_toArray, List.set_cons_zero, List.set_cons_succ])
                refine wpAnyK_takeD (i := 5) (v := .slice sa xp.length sc) (some 58) rfl rfl (by kernel_rfl) (by kernel_rfl) (by kernel_rfl) (by decide) (fun _ _ _ h => h) (Or.inl ⟨by rfl, fun w' hw' => ?_⟩) (fun _ => trivial) (HD.out) ?_
                · obtain ⟨b0, b3⟩ := hw'; go_simp
                (try simp only [Act.put, List.setIfInBounds_toArray, List.set_cons_zero, List.set_cons_succ])
                refine wpAnyK_takeD (i := 9) (v := .pointer (some ⟨wk.heap.size, 0, none⟩)) (some 62) rfl rfl (by kernel_rfl) (by kernel_rfl) (by kernel_rfl) (by decide) (fun _ _ _ h => h) (Or.inl ⟨by rfl, fun w' hw' => ?_⟩) (fun _ => trivial) (HD.out) ?_
                · go_simp
                (try simp only [Act.put, List.setIfInBounds_toArray, List.set_cons_zero, List.set_cons_succ])
                refine wpAnyK_takeD (i := 10) (v := intV xk) (some 63) rfl rfl (by kernel_rfl) (by kernel_rfl) (by kernel_rfl) (by decide) (fun _ _ _ h => h) (Or.inl ⟨by rfl, fun w' hw' => ?_⟩) (fun _ => trivial) (HD.out) ?_
                · obtain ⟨b0, b3⟩ := hw'; go_simp
                (try simp only [Act.put, List.setIfInBounds_toArray, List.set_cons_zero, List.set_cons_succ])
                refine wpAnyK_all (rs := [6]) (by kernel_rfl) (by simp) ?_
                intro i' hi'
                obtain rfl := List.mem_singleton.1 hi'
                clear hi'
                refine wpOp_step rfl fun K hK => ?_
                go_simp
                go_at_call 50
                refine (HC.out _ HXD.out).mono ?_
                rintro e' w4 ⟨rfl, h4⟩
                have HD4 := Lib.hid (And.intro ((h4.cell (p := ⟨wk.heap.size, 0, none⟩) HKD.out).trans HD.out.1) ((h4.cell (p := ⟨wk.heap.size, 3, none⟩) HKD.out).trans HD.out.2))
                have HB4 := Lib.hid (below_then HBD.out h4)
                clear h4
                refine hK _ _ ⟨fun _ => trivial, HD4.out, ?_⟩
                clear hK K
                (try simp only [Act.put, List.setIfInBounds_toArray, List.set_cons_zero, List.set_cons_succ])
                refine wpAnyK_takeD (i := 7) (v := sV s3) (some 60) rfl rfl (by kernel_rfl) (by kernel_rfl) (by kernel_rfl) (by decide) (fun _ _ _ h => h) (Or.inl ⟨by rfl, fun w' hw' => ?_⟩) (fun _ => trivial) (HD4.out) ?_
                · go_simp; omega
                (try simp only [Act.put, List.setIfInBounds_toArray, List.set_cons_zero, List.set_cons_succ])
                refine wpAnyK_takeD (i := 8) (v := sV s4) (some 61) rfl rfl (by kernel_rfl) (by kernel_rfl) (by kernel_rfl) (by decide) (fun _ _ _ h => h) (Or.inl ⟨by rfl, fun w' hw' => ?_⟩) (fun _ => trivial) (HD4.out) ?_
                · go_simp; omega
                (try simp only [Act.put, List.setIfInBounds_toArray, List.set_cons_zero, List.set_cons_succ])
                refine wpAnyK_all (rs := [11]) (by kernel_rfl) (by simp) ?_
                intro i' hi'
                obtain rfl := List.mem_singleton.1 hi'
                clear hi'
                refine wpOp_step rfl fun K hK => ?_
                go_simp
                go_at_call 77
                refine (HN.out _).mono ?_
                rintro e' w5 ⟨rfl, h5⟩
                have HD5 := Lib.hid (show w5.cell? ⟨wk.heap.size, 0, none⟩ = some (intV xk) ∧ w5.cell? ⟨wk.heap.size, 3, none⟩ = some (.slice sa xp.length sc) from ⟨(h5.cell (p := ⟨wk.heap.size, 0, none⟩) (cellT_lt HD4.out.1)).trans HD4.out.1, (h5.cell (p := ⟨wk.heap.size, 3, none⟩) (cellT_lt HD4.out.2)).trans HD4.out.2⟩)
                have HB5 := Lib.hid (below_then HB4.out h5)
                clear h5
                refine hK _ _ ⟨fun _ => trivial, HD5.out, ?_⟩
                clear hK K
                (try simp only [Act.put, List.setIfInBounds_toArray, List.set_cons_zero, List.set_cons_succ])
                refine wpAnyK_takeD (i := 12) (v := sV s5) (some 65) rfl rfl (by kernel_rfl) (by kernel_rfl) (by kernel_rfl) (by decide) (fun _ _ _ h => h) (Or.inl ⟨by rfl, fun w' hw' => ?_⟩) (fun _ => trivial) (HD5.out) ?_
                · go_simp; omega
                (try simp only [Act.put, List.setIfInBounds_toArray, List.set_cons_zero, List.set_cons_succ])
                refine wpAnyK_takeD (i := 13) (v := sV s6) (some 66) rfl rfl (by kernel_rfl) (by kernel_rfl) (by kernel_rfl) (by decide) (fun _ _ _ h => h) (Or.inl ⟨by rfl, fun w' hw' => ?_⟩) (fun _ => trivial) (HD5.out) ?_
                · go_simp; omega
                (try simp only [Act.put, List.setIfInBounds_toArray, List.set_cons_zero, List.set_cons_succ])
                refine wpAnyK_takeD (i := 14) (v := sV s6) (some 3) rfl rfl (by kernel_rfl) (by kernel_rfl) (by kernel_rfl) (by decide) (fun _ _ _ h => h) (Or.inl ⟨by rfl, fun w' hw' => ?_⟩) (fun _ => trivial) (HD5.out) ?_
                · go_simp
                (try simp only [Act.put, List.setIfInBounds_toArray, List.set_cons_zero, List.set_cons_succ])
                refine wpAnyK_done (by kernel_rfl) ?_ _
                refine NoPanic.normal ?_
                go_wp2
                go_roundw
                case rel => exact ⟨j + 1, s6, by omega, by go_num, rfl, Lib.hid ⟨HST.out, HNX.out⟩, HB5.out⟩
                case measure => simp [intOf]; omega
              · have hn : 1 ≤ xn ∧ xn ≤ 64 := by
                  unfold numsK at hnb
                  simp at hnb
                  rcases hf with h | h | h | h | h | h | h | h <;> omega
                obtain ⟨i, rfl⟩ : ∃ i : Nat, xn = (i : Int) := ⟨xn.toNat, by omega⟩
                obtain ⟨vv, hvv⟩ : ∃ vv, Lib.itoa (i : Int) = vv := ⟨_, rfl⟩
                have HIT := Lib.hid (fun W => itoa_any i (by omega) W)
                rw [show ddN i = vv by rw [← hvv, ← dd_eq (by omega)]; unfold Lib.itoa; rw [if_neg (by omega)]; rfl] at HIT
                have hvl : vv.length ≤ 2 := by rw [← hvv, itoa_digs hn.1 (by omega)]; exact digs_len _
                rw [hvv] at hbi
                clear hvv hn
                have x2 : (baL vv).size ≤ 350000000 := by rw [baL_size]; omega
                obtain ⟨t1, ht1⟩ : ∃ t1, t0 ++ [32] = t1 := ⟨_, rfl⟩
                have htl1 : t1.length ≤ 9 := by rw [← ht1]; simp; omega
                have y1 : baL t0 ++ (⟨#[32]⟩ : ByteArray) = baL t1 := by rw [← ht1]; exact baL_append t0 [32]
                have x3 : (baL t1).size ≤ 350000000 := by rw [baL_size]; omega
                obtain ⟨tg, htg⟩ : ∃ tg, t1 ++ vv = tg := ⟨_, rfl⟩
                have y2 : baL t1 ++ baL vv = baL tg := by rw [← htg]; exact baL_append _ _
                have htl : tg.length ≤ 70000 := by rw [← htg, List.length_append]; omega
                have htg : 60 :: nm ++ (32 :: vv) = tg := by rw [← htg, ← ht1, ← ht0]; simp
                clear ht1
                have x4 : (baL tg).size ≤ 350000000 := by rw [baL_size]; omega
                obtain ⟨s1, hs1⟩ : ∃ s1, s ++ tg = s1 := ⟨_, rfl⟩
                have y3 : baL s ++ baL tg = baL s1 := by rw [← hs1]; exact baL_append _ _
                obtain ⟨b1, b2⟩ := hbi.2 hpk
                rw [htb, hnb] at b1
                obtain ⟨s2, hs2⟩ : ∃ s2, s1 ++ [62] = s2 := ⟨_, rfl⟩
                obtain ⟨s3, hs3⟩ : ∃ s3, s2 ++ sp = s3 := ⟨_, rfl⟩
                obtain ⟨s4, hs4⟩ : ∃ s4, s3 ++ [60, 47] = s4 := ⟨_, rfl⟩
                obtain ⟨s5, hs5⟩ : ∃ s5, s4 ++ nm = s5 := ⟨_, rfl⟩
                obtain ⟨s6, hs6⟩ : ∃ s6, s5 ++ [62] = s6 := ⟨_, rfl⟩
                have HST := Lib.hid (show outL l = s6 ++ outL (l.drop (j + 1)) by
                  rw [hst, b1, b2, ← hs6, ← hs5, ← hs4, ← hs3, ← hs2, ← hs1, ← htg]
                  simp)
                have hl2 := congrArg List.length HST.out
                simp only [List.length_append] at hl2
                have g1 := congrArg List.length hs1
                have g2 := congrArg List.length hs2
                have g3 := congrArg List.length hs3
                have g4 := congrArg List.length hs4
                have g5 := congrArg List.length hs5
                have g6 := congrArg List.length hs6
                simp only [List.length_append] at g1 g2 g3 g4 g5 g6
                have y4 : baL s1 ++ (⟨#[62]⟩ : ByteArray) = baL s2 := by rw [← hs2]; exact baL_append s1 [62]
                have x5 : (baL s1).size ≤ 350000000 := by rw [baL_size]; omega
                have y5 : baL s2 ++ baL sp = baL s3 := by rw [← hs3]; exact baL_append _ _
                have x6 : (baL s2).size ≤ 350000000 := by rw [baL_size]; omega
                have x6' : (baL sp).size ≤ 350000000 := by rw [baL_size]; omega
                have y6 : baL s3 ++ (⟨#[60, 47]⟩ : ByteArray) = baL s4 := by rw [← hs4]; exact baL_append s3 [60, 47]
                have x7 : (baL s3).size ≤ 350000000 := by rw [baL_size]; omega
                have y7 : baL s4 ++ baL nm = baL s5 := by rw [← hs5]; exact baL_append _ _
                have x8 : (baL s4).size ≤ 350000000 := by rw [baL_size]; omega
                have y8 : baL s5 ++ (⟨#[62]⟩ : ByteArray) = baL s6 := by rw [← hs6]; exact baL_append s5 [62]
                have x9 : (baL s5).size ≤ 350000000 := by rw [baL_size]; omega
                clear hst hlen b1 b2 hbi hf hk hxe hl2 htl htg hnl g1 g2 g3 g4 g5 g6 hs1 hs2 hs3 hs4 hs5 hs6 htl0
                go_upto_region 15 with (first | (go_at_call 78; refine (texts_any xk _ htb _).mono ?_; rintro e5 w5 ⟨rfl, hw5⟩; rw [hw5]; clear hw5 w5) | (go_at_call 79; refine (numbers_any xk _ hnb _).mono ?_; rintro e5 w5 ⟨rfl, hw5⟩; rw [hw5]; clear hw5 w5) | (go_at_call 80; refine (parts_any xk _ hpk _).mono ?_; rintro e5 w5 ⟨rfl, hw5⟩; rw [hw5]; clear hw5 w5) | (go_at_call 74; refine (HIT.out _).mono ?_; rintro e5 w5 ⟨rfl, hw5⟩; rw [hw5]; clear hw5 w5))
                have HD := Lib.hid (show w2.drew.cell? ⟨wk.heap.size, 0, none⟩ = some (intV xk) ∧ w2.drew.cell? ⟨wk.heap.size, 3, none⟩ = some (.slice sa xp.length sc) from ⟨e0, e3⟩)
                have HBD := Lib.hid (HB2.out.trans (below_drew1S (N := w.heap.size) w2))
                have HXD := Lib.hid (HX2.out.below (below_drew1S (N := w2.heap.size) w2))
                have HKD := Lib.hid (show wk.heap.size < w2.drew.heap.size from heap_ltT HK2.out)
                clear e0 e1 e2 e3
                refine wp_region_noPanic ?_
                refine wp_region_any (by kernel_rfl) (wpAny_of_k (S := fun _ => True) (S' := fun W' => W'.cell? ⟨wk.heap.size, 0, none⟩ = some (intV xk) ∧ W'.cell? ⟨wk.heap.size, 3, none⟩ = some (.slice sa xp.length sc)) (k := 99) _ _ _ _ ?_)
                change wpAnyK _ _ _ _ _ _ _ 15 _ _ w2.drew
                refine wpAnyK_takeD (i := 0) (v := sV s) (some 53) rfl rfl (by kernel_rfl) (by kernel_rfl) (by kernel_rfl) (by decide) (fun _ _ _ h => h) (Or.inl ⟨by rfl, fun w' hw' => ?_⟩) (fun _ => trivial) (HD.out) ?_
                · go_simp
                (try simp only [Act.put, List.setIfInBounds_toArray, List.set_cons_zero, List.set_cons_succ])
                refine wpAnyK_takeD (i := 1) (v := sV tg) (some 54) rfl rfl (by kernel_rfl) (by kernel_rfl) (by kernel_rfl) (by decide) (fun _ _ _ h => h) (Or.inl ⟨by rfl, fun w' hw' => ?_⟩) (fun _ => trivial) (HD.out) ?_
                · go_simp
                (try simp only [Act.put, List.setIfInBounds_toArray, List.set_cons_zero, List.set_cons_succ])
                refine wpAnyK_takeD (i := 2) (v := sV s1) (some 55) rfl rfl (by kernel_rfl) (by kernel_rfl) (by kernel_rfl) (by decide) (fun _ _ _ h => h) (Or.inl ⟨by rfl, fun w' hw' => ?_⟩) (fun _ => trivial) (HD.out) ?_
                · go_simp; omega
                (try simp only [Act.put, List.setIfInBounds_toArray, List.set_cons_zero, List.set_cons_succ])
                refine wpAnyK_takeD (i := 3) (v := sV s2) (some 56) rfl rfl (by kernel_rfl) (by kernel_rfl) (by kernel_rfl) (by decide) (fun _ _ _ h => h) (Or.inl ⟨by rfl, fun w' hw' => ?_⟩) (fun _ => trivial) (HD.out) ?_
                · go_simp; omega
                (try simp only [Act.put, List.setIfInBounds_toArray, List.set_cons_zero, List.set_cons_succ])
                refine wpAnyK_takeD (i := 4) (v := .pointer (some ⟨wk.heap.size, 3, none⟩)) (some 57) rfl rfl (by kernel_rfl) (by kernel_rfl) (by kernel_rfl) (by decide) (fun _ _ _ h => h) (Or.inl ⟨by rfl, fun w' hw' => ?_⟩) (fun _ => trivial) (HD.out) ?_
                · go_simp
                (try simp only [Act.put, List.setIfInBounds_toArray, List.set_cons_zero, List.set_cons_succ])
                refine wpAnyK_takeD (i := 5) (v := .slice sa xp.length sc) (some 58) rfl rfl (by kernel_rfl) (by kernel_rfl) (by kernel_rfl) (by decide) (fun _ _ _ h => h) (Or.inl ⟨by rfl, fun w' hw' => ?_⟩) (fun _ => trivial) (HD.out) ?_
                · obtain ⟨b0, b3⟩ := hw'; go_simp
                (try simp only [Act.put, List.setIfInBounds_toArray, List.set_cons_zero, List.set_cons_succ])
                refine wpAnyK_takeD (i := 9) (v := .pointer (some ⟨wk.heap.size, 0, none⟩)) (some 62) rfl rfl (by kernel_rfl) (by kernel_rfl) (by kernel_rfl) (by decide) (fun _ _ _ h => h) (Or.inl ⟨by rfl, fun w' hw' => ?_⟩) (fun _ => trivial) (HD.out) ?_
                · go_simp
                (try simp only [Act.put, List.setIfInBounds_toArray, List.set_cons_zero, List.set_cons_succ])
                refine wpAnyK_takeD (i := 10) (v := intV xk) (some 63) rfl rfl (by kernel_rfl) (by kernel_rfl) (by kernel_rfl) (by decide) (fun _ _ _ h => h) (Or.inl ⟨by rfl, fun w' hw' => ?_⟩) (fun _ => trivial) (HD.out) ?_
                · obtain ⟨b0, b3⟩ := hw'; go_simp
                (try simp only [Act.put, List.setIfInBounds_toArray, List.set_cons_zero, List.set_cons_succ])
                refine wpAnyK_all (rs := [6]) (by kernel_rfl) (by simp) ?_
                intro i' hi'
                obtain rfl := List.mem_singleton.1 hi'
                clear hi'
                refine wpOp_step rfl fun K hK => ?_
                go_simp
                go_at_call 50
                refine (HC.out _ HXD.out).mono ?_
                rintro e' w4 ⟨rfl, h4⟩
                have HD4 := Lib.hid (And.intro ((h4.cell (p := ⟨wk.heap.size, 0, none⟩) HKD.out).trans HD.out.1) ((h4.cell (p := ⟨wk.heap.size, 3, none⟩) HKD.out).trans HD.out.2))
                have HB4 := Lib.hid (below_then HBD.out h4)
                clear h4
                refine hK _ _ ⟨fun _ => trivial, HD4.out, ?_⟩
                clear hK K
                (try simp only [Act.put, List.setIfInBounds_toArray, List.set_cons_zero, List.set_cons_succ])
                refine wpAnyK_takeD (i := 7) (v := sV s3) (some 60) rfl rfl (by kernel_rfl) (by kernel_rfl) (by kernel_rfl) (by decide) (fun _ _ _ h => h) (Or.inl ⟨by rfl, fun w' hw' => ?_⟩) (fun _ => trivial) (HD4.out) ?_
                · go_simp; omega
                (try simp only [Act.put, List.setIfInBounds_toArray, List.set_cons_zero, List.set_cons_succ])
                refine wpAnyK_takeD (i := 8) (v := sV s4) (some 61) rfl rfl (by kernel_rfl) (by kernel_rfl) (by kernel_rfl) (by decide) (fun _ _ _ h => h) (Or.inl ⟨by rfl, fun w' hw' => ?_⟩) (fun _ => trivial) (HD4.out) ?_
                · go_simp; omega
                (try simp only [Act.put, List.setIfInBounds_toArray, List.set_cons_zero, List.set_cons_succ])
                refine wpAnyK_all (rs := [11]) (by kernel_rfl) (by simp) ?_
                intro i' hi'
                obtain rfl := List.mem_singleton.1 hi'
                clear hi'
                refine wpOp_step rfl fun K hK => ?_
                go_simp
                go_at_call 77
                refine (HN.out _).mono ?_
                rintro e' w5 ⟨rfl, h5⟩
                have HD5 := Lib.hid (show w5.cell? ⟨wk.heap.size, 0, none⟩ = some (intV xk) ∧ w5.cell? ⟨wk.heap.size, 3, none⟩ = some (.slice sa xp.length sc) from ⟨(h5.cell (p := ⟨wk.heap.size, 0, none⟩) (cellT_lt HD4.out.1)).trans HD4.out.1, (h5.cell (p := ⟨wk.heap.size, 3, none⟩) (cellT_lt HD4.out.2)).trans HD4.out.2⟩)
                have HB5 := Lib.hid (below_then HB4.out h5)
                clear h5
                refine hK _ _ ⟨fun _ => trivial, HD5.out, ?_⟩
                clear hK K
                (try simp only [Act.put, List.setIfInBounds_toArray, List.set_cons_zero, List.set_cons_succ])
                refine wpAnyK_takeD (i := 12) (v := sV s5) (some 65) rfl rfl (by kernel_rfl) (by kernel_rfl) (by kernel_rfl) (by decide) (fun _ _ _ h => h) (Or.inl ⟨by rfl, fun w' hw' => ?_⟩) (fun _ => trivial) (HD5.out) ?_
                · go_simp; omega
                (try simp only [Act.put, List.setIfInBounds_toArray, List.set_cons_zero, List.set_cons_succ])
                refine wpAnyK_takeD (i := 13) (v := sV s6) (some 66) rfl rfl (by kernel_rfl) (by kernel_rfl) (by kernel_rfl) (by decide) (fun _ _ _ h => h) (Or.inl ⟨by rfl, fun w' hw' => ?_⟩) (fun _ => trivial) (HD5.out) ?_
                · go_simp; omega
                (try simp only [Act.put, List.setIfInBounds_toArray, List.set_cons_zero, List.set_cons_succ])
                refine wpAnyK_takeD (i := 14) (v := sV s6) (some 3) rfl rfl (by kernel_rfl) (by kernel_rfl) (by kernel_rfl) (by decide) (fun _ _ _ h => h) (Or.inl ⟨by rfl, fun w' hw' => ?_⟩) (fun _ => trivial) (HD5.out) ?_
                · go_simp
                (try simp only [Act.put, List.setIfInBounds_toArray, List.set_cons_zero, List.set_cons_succ])
                refine wpAnyK_done (by kernel_rfl) ?_ _
                refine NoPanic.normal ?_
                go_wp2
                go_roundw
                case rel => exact ⟨j + 1, s6, by omega, by go_num, rfl, Lib.hid ⟨HST.out, HNX.out⟩, HB5.out⟩
                case measure => simp [intOf]; omega
            · have hnb : numsK xk = false := by
                unfold textsK at htb
                unfold numsK
                simp at htb ⊢
                omega
              have hvl := fine_len hf
              have x2 : (baL xt).size ≤ 350000000 := by rw [baL_size]; omega
              obtain ⟨t1, ht1⟩ : ∃ t1, t0 ++ [32] = t1 := ⟨_, rfl⟩
              have htl1 : t1.length ≤ 9 := by rw [← ht1]; simp; omega
              have y1 : baL t0 ++ (⟨#[32]⟩ : ByteArray) = baL t1 := by rw [← ht1]; exact baL_append t0 [32]
              have x3 : (baL t1).size ≤ 350000000 := by rw [baL_size]; omega
              obtain ⟨tg, htg⟩ : ∃ tg, t1 ++ xt = tg := ⟨_, rfl⟩
              have y2 : baL t1 ++ baL xt = baL tg := by rw [← htg]; exact baL_append _ _
              have htl : tg.length ≤ 70000 := by rw [← htg, List.length_append]; omega
              have htg : 60 :: nm ++ (32 :: xt) = tg := by rw [← htg, ← ht1, ← ht0]; simp
              clear ht1
              have x4 : (baL tg).size ≤ 350000000 := by rw [baL_size]; omega
              obtain ⟨s1, hs1⟩ : ∃ s1, s ++ tg = s1 := ⟨_, rfl⟩
              have y3 : baL s ++ baL tg = baL s1 := by rw [← hs1]; exact baL_append _ _
              obtain ⟨b1, b2⟩ := hbi.2 hpk
              rw [htb, hnb] at b1
              obtain ⟨s2, hs2⟩ : ∃ s2, s1 ++ [62] = s2 := ⟨_, rfl⟩
              obtain ⟨s3, hs3⟩ : ∃ s3, s2 ++ sp = s3 := ⟨_, rfl⟩
              obtain ⟨s4, hs4⟩ : ∃ s4, s3 ++ [60, 47] = s4 := ⟨_, rfl⟩
              obtain ⟨s5, hs5⟩ : ∃ s5, s4 ++ nm = s5 := ⟨_, rfl⟩
              obtain ⟨s6, hs6⟩ : ∃ s6, s5 ++ [62] = s6 := ⟨_, rfl⟩
              have HST := Lib.hid (show outL l = s6 ++ outL (l.drop (j + 1)) by
                rw [hst, b1, b2, ← hs6, ← hs5, ← hs4, ← hs3, ← hs2, ← hs1, ← htg]
                simp)
              have hl2 := congrArg List.length HST.out
              simp only [List.length_append] at hl2
              have g1 := congrArg List.length hs1
              have g2 := congrArg List.length hs2
              have g3 := congrArg List.length hs3
              have g4 := congrArg List.length hs4
              have g5 := congrArg List.length hs5
              have g6 := congrArg List.length hs6
              simp only [List.length_append] at g1 g2 g3 g4 g5 g6
              have y4 : baL s1 ++ (⟨#[62]⟩ : ByteArray) = baL s2 := by rw [← hs2]; exact baL_append s1 [62]
              have x5 : (baL s1).size ≤ 350000000 := by rw [baL_size]; omega
              have y5 : baL s2 ++ baL sp = baL s3 := by rw [← hs3]; exact baL_append _ _
              have x6 : (baL s2).size ≤ 350000000 := by rw [baL_size]; omega
              have x6' : (baL sp).size ≤ 350000000 := by rw [baL_size]; omega
              have y6 : baL s3 ++ (⟨#[60, 47]⟩ : ByteArray) = baL s4 := by rw [← hs4]; exact baL_append s3 [60, 47]
              have x7 : (baL s3).size ≤ 350000000 := by rw [baL_size]; omega
              have y7 : baL s4 ++ baL nm = baL s5 := by rw [← hs5]; exact baL_append _ _
              have x8 : (baL s4).size ≤ 350000000 := by rw [baL_size]; omega
              have y8 : baL s5 ++ (⟨#[62]⟩ : ByteArray) = baL s6 := by rw [← hs6]; exact baL_append s5 [62]
              have x9 : (baL s5).size ≤ 350000000 := by rw [baL_size]; omega
              clear hst hlen b1 b2 hbi hf hk hxe hl2 htl htg hnl g1 g2 g3 g4 g5 g6 hs1 hs2 hs3 hs4 hs5 hs6 htl0
              go_upto_region 15 with (first | (go_at_call 78; refine (texts_any xk _ htb _).mono ?_; rintro e5 w5 ⟨rfl, hw5⟩; rw [hw5]; clear hw5 w5) | (go_at_call 79; refine (numbers_any xk _ hnb _).mono ?_; rintro e5 w5 ⟨rfl, hw5⟩; rw [hw5]; clear hw5 w5) | (go_at_call 80; refine (parts_any xk _ hpk _).mono ?_; rintro e5 w5 ⟨rfl, hw5⟩; rw [hw5]; clear hw5 w5) | (go_at_call 74; refine (HIT.out _).mono ?_; rintro e5 w5 ⟨rfl, hw5⟩; rw [hw5]; clear hw5 w5))
              have HD := Lib.hid (show w2.drew.cell? ⟨wk.heap.size, 0, none⟩ = some (intV xk) ∧ w2.drew.cell? ⟨wk.heap.size, 3, none⟩ = some (.slice sa xp.length sc) from ⟨e0, e3⟩)
              have HBD := Lib.hid (HB2.out.trans (below_drew1S (N := w.heap.size) w2))
              have HXD := Lib.hid (HX2.out.below (below_drew1S (N := w2.heap.size) w2))
              have HKD := Lib.hid (show wk.heap.size < w2.drew.heap.size from heap_ltT HK2.out)
              clear e0 e1 e2 e3
              refine wp_region_noPanic ?_
              refine wp_region_any (by kernel_rfl) (wpAny_of_k (S := fun _ => True) (S' := fun W' => W'.cell? ⟨wk.heap.size, 0, none⟩ = some (intV xk) ∧ W'.cell? ⟨wk.heap.size, 3, none⟩ = some (.slice sa xp.length sc)) (k := 99) _ _ _ _ ?_)
              change wpAnyK _ _ _ _ _ _ _ 15 _ _ w2.drew
              refine wpAnyK_takeD (i := 0) (v := sV s) (some 53) rfl rfl (by kernel_rfl) (by kernel_rfl) (by kernel_rfl) (by decide) (fun _ _ _ h => h) (Or.inl ⟨by rfl, fun w' hw' => ?_⟩) (fun _ => trivial) (HD.out) ?_
              · go_simp
              (try simp only [Act.put, List.setIfInBounds_toArray, List.set_cons_zero, List.set_cons_succ])
              refine wpAnyK_takeD (i := 1) (v := sV tg) (some 54) rfl rfl (by kernel_rfl) (by kernel_rfl) (by kernel_rfl) (by decide) (fun _ _ _ h => h) (Or.inl ⟨by rfl, fun w' hw' => ?_⟩) (fun _ => trivial) (HD.out) ?_
              · go_simp
              (try simp only [Act.put, List.setIfInBounds_toArray, List.set_cons_zero, List.set_cons_succ])
              refine wpAnyK_takeD (i := 2) (v := sV s1) (some 55) rfl rfl (by kernel_rfl) (by kernel_rfl) (by kernel_rfl) (by decide) (fun _ _ _ h => h) (Or.inl ⟨by rfl, fun w' hw' => ?_⟩) (fun _ => trivial) (HD.out) ?_
              · go_simp; omega
              (try simp only [Act.put, List.setIfInBounds_toArray, List.set_cons_zero, List.set_cons_succ])
              refine wpAnyK_takeD (i := 3) (v := sV s2) (some 56) rfl rfl (by kernel_rfl) (by kernel_rfl) (by kernel_rfl) (by decide) (fun _ _ _ h => h) (Or.inl ⟨by rfl, fun w' hw' => ?_⟩) (fun _ => trivial) (HD.out) ?_
              · go_simp; omega
              (try simp only [Act.put, List.setIfInBounds_toArray, List.set_cons_zero, List.set_cons_succ])
              refine wpAnyK_takeD (i := 4) (v := .pointer (some ⟨wk.heap.size, 3, none⟩)) (some 57) rfl rfl (by kernel_rfl) (by kernel_rfl) (by kernel_rfl) (by decide) (fun _ _ _ h => h) (Or.inl ⟨by rfl, fun w' hw' => ?_⟩) (fun _ => trivial) (HD.out) ?_
              · go_simp
              (try simp only [Act.put, List.setIfInBounds_toArray, List.set_cons_zero, List.set_cons_succ])
              refine wpAnyK_takeD (i := 5) (v := .slice sa xp.length sc) (some 58) rfl rfl (by kernel_rfl) (by kernel_rfl) (by kernel_rfl) (by decide) (fun _ _ _ h => h) (Or.inl ⟨by rfl, fun w' hw' => ?_⟩) (fun _ => trivial) (HD.out) ?_
              · obtain ⟨b0, b3⟩ := hw'; go_simp
              (try simp only [Act.put, List.setIfInBounds_toArray, List.set_cons_zero, List.set_cons_succ])
              refine wpAnyK_takeD (i := 9) (v := .pointer (some ⟨wk.heap.size, 0, none⟩)) (some 62) rfl rfl (by kernel_rfl) (by kernel_rfl) (by kernel_rfl) (by decide) (fun _ _ _ h => h) (Or.inl ⟨by rfl, fun w' hw' => ?_⟩) (fun _ => trivial) (HD.out) ?_
              · go_simp
              (try simp only [Act.put, List.setIfInBounds_toArray, List.set_cons_zero, List.set_cons_succ])
              refine wpAnyK_takeD (i := 10) (v := intV xk) (some 63) rfl rfl (by kernel_rfl) (by kernel_rfl) (by kernel_rfl) (by decide) (fun _ _ _ h => h) (Or.inl ⟨by rfl, fun w' hw' => ?_⟩) (fun _ => trivial) (HD.out) ?_
              · obtain ⟨b0, b3⟩ := hw'; go_simp
              (try simp only [Act.put, List.setIfInBounds_toArray, List.set_cons_zero, List.set_cons_succ])
              refine wpAnyK_all (rs := [6]) (by kernel_rfl) (by simp) ?_
              intro i' hi'
              obtain rfl := List.mem_singleton.1 hi'
              clear hi'
              refine wpOp_step rfl fun K hK => ?_
              go_simp
              go_at_call 50
              refine (HC.out _ HXD.out).mono ?_
              rintro e' w4 ⟨rfl, h4⟩
              have HD4 := Lib.hid (And.intro ((h4.cell (p := ⟨wk.heap.size, 0, none⟩) HKD.out).trans HD.out.1) ((h4.cell (p := ⟨wk.heap.size, 3, none⟩) HKD.out).trans HD.out.2))
              have HB4 := Lib.hid (below_then HBD.out h4)
              clear h4
              refine hK _ _ ⟨fun _ => trivial, HD4.out, ?_⟩
              clear hK K
              (try simp only [Act.put, List.setIfInBounds_toArray, List.set_cons_zero, List.set_cons_succ])
              refine wpAnyK_takeD (i := 7) (v := sV s3) (some 60) rfl rfl (by kernel_rfl) (by kernel_rfl) (by kernel_rfl) (by decide) (fun _ _ _ h => h) (Or.inl ⟨by rfl, fun w' hw' => ?_⟩) (fun _ => trivial) (HD4.out) ?_
              · go_simp; omega
              (try simp only [Act.put, List.setIfInBounds_toArray, List.set_cons_zero, List.set_cons_succ])
              refine wpAnyK_takeD (i := 8) (v := sV s4) (some 61) rfl rfl (by kernel_rfl) (by kernel_rfl) (by kernel_rfl) (by decide) (fun _ _ _ h => h) (Or.inl ⟨by rfl, fun w' hw' => ?_⟩) (fun _ => trivial) (HD4.out) ?_
              · go_simp; omega
              (try simp only [Act.put, List.setIfInBounds_toArray, List.set_cons_zero, List.set_cons_succ])
              refine wpAnyK_all (rs := [11]) (by kernel_rfl) (by simp) ?_
              intro i' hi'
              obtain rfl := List.mem_singleton.1 hi'
              clear hi'
              refine wpOp_step rfl fun K hK => ?_
              go_simp
              go_at_call 77
              refine (HN.out _).mono ?_
              rintro e' w5 ⟨rfl, h5⟩
              have HD5 := Lib.hid (show w5.cell? ⟨wk.heap.size, 0, none⟩ = some (intV xk) ∧ w5.cell? ⟨wk.heap.size, 3, none⟩ = some (.slice sa xp.length sc) from ⟨(h5.cell (p := ⟨wk.heap.size, 0, none⟩) (cellT_lt HD4.out.1)).trans HD4.out.1, (h5.cell (p := ⟨wk.heap.size, 3, none⟩) (cellT_lt HD4.out.2)).trans HD4.out.2⟩)
              have HB5 := Lib.hid (below_then HB4.out h5)
              clear h5
              refine hK _ _ ⟨fun _ => trivial, HD5.out, ?_⟩
              clear hK K
              (try simp only [Act.put, List.setIfInBounds_toArray, List.set_cons_zero, List.set_cons_succ])
              refine wpAnyK_takeD (i := 12) (v := sV s5) (some 65) rfl rfl (by kernel_rfl) (by kernel_rfl) (by kernel_rfl) (by decide) (fun _ _ _ h => h) (Or.inl ⟨by rfl, fun w' hw' => ?_⟩) (fun _ => trivial) (HD5.out) ?_
              · go_simp; omega
              (try simp only [Act.put, List.setIfInBounds_toArray, List.set_cons_zero, List.set_cons_succ])
              refine wpAnyK_takeD (i := 13) (v := sV s6) (some 66) rfl rfl (by kernel_rfl) (by kernel_rfl) (by kernel_rfl) (by decide) (fun _ _ _ h => h) (Or.inl ⟨by rfl, fun w' hw' => ?_⟩) (fun _ => trivial) (HD5.out) ?_
              · go_simp; omega
              (try simp only [Act.put, List.setIfInBounds_toArray, List.set_cons_zero, List.set_cons_succ])
              refine wpAnyK_takeD (i := 14) (v := sV s6) (some 3) rfl rfl (by kernel_rfl) (by kernel_rfl) (by kernel_rfl) (by decide) (fun _ _ _ h => h) (Or.inl ⟨by rfl, fun w' hw' => ?_⟩) (fun _ => trivial) (HD5.out) ?_
              · go_simp
              (try simp only [Act.put, List.setIfInBounds_toArray, List.set_cons_zero, List.set_cons_succ])
              refine wpAnyK_done (by kernel_rfl) ?_ _
              refine NoPanic.normal ?_
              go_wp2
              go_roundw
              case rel => exact ⟨j + 1, s6, by omega, by go_num, rfl, Lib.hid ⟨HST.out, HNX.out⟩, HB5.out⟩
              case measure => simp [intOf]; omega
      · have HZ := Lib.hid (show s = r by
          rw [← HR.out, HT.out.1, List.drop_of_length_le (by omega)]
          show s = s ++ []
          rw [List.append_nil])
        clear hB
        go_wp2
        go_ret
        exact ⟨by rw [HZ.out]; rfl, HB.out⟩
end Go.Proofs.YtmfcepfagbkceaaGreatDoor
