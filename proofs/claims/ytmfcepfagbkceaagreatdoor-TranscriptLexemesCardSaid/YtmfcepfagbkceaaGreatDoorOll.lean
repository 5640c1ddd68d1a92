/- Stage 10 (transcript): TrLexL, put together by merge10.py. -/
import Derived.Test.YtmfcepfagbkceaaGreatDoorOlw
namespace Go.Proofs.YtmfcepfagbkceaaGreatDoor
set_option linter.unusedSimpArgs false
set_option linter.unusedVariables false
set_option maxRecDepth 100000
open Go.RowKit Go.Deep
theorem ncl_succ (X : List Lx) (j : Nat) (h : j < X.length) : nclL (X.take (j + 1)) = nclL (X.take j) + if X[j].k = 3 then 0 else 1 := by
  rw [List.take_succ_eq_append_getElem h, ncl_append]
  congr 1
  unfold nclL
  by_cases hk : X[j].k = 3 <;> simp [hk]
theorem ncl_le (X : List Lx) : nclL X ≤ X.length := by unfold nclL; exact List.length_filter_le _ _
def sumT (f : Nat → Nat) : Nat → Nat
  | 0 => 0
  | k + 1 => sumT f k + f (k + 1)
theorem sumT_all (l : List Nd) : sumT (fun c => cntL c l) 11 = sumK (fun c => cntL c l) := by
  unfold sumK
  simp [sumT]
theorem sumT_le (l : List Nd) : ∀ k, sumT (fun c => cntL c l) k ≤ k * tots l
  | 0 => by simp [sumT]
  | k + 1 => by
    have h1 := sumT_le l k
    have h2 := (cnt_tot ((k + 1 : Nat) : Int)).2 l
    rw [sumT, Nat.succ_mul]
    omega
set_option maxHeartbeats 8000000 in
theorem lexemes_law (s : Bs) (w : World) [T w] (hs : s.length ≤ maxLen) :
    Calls Tryz.prog 8 #[sV s] w fun e w' => e = .returned (.bool true) ∧ Below w.heap.size w w' := by
  obtain ⟨g, hg⟩ : ∃ g, greatB s.length = g := ⟨_, rfl⟩
  have HG := Lib.hid (fun W => greatS_any s hs g hg W)
  cases g with
  | true =>
    clear hs hg
    go_enter Tryz.func8, Tryz.ntmps8
    go_wp2_with fail
    refine (HG.out w).mono ?_
    rintro e1 w1 ⟨rfl, h1⟩
    have B1 := Lib.hid h1
    haveI tt1 : T w1 := T.below B1.out
    clear h1
    go_wp2_with fail
    refine (awake_any w1).mono ?_
    rintro e2 w2 ⟨rfl, h2⟩
    have B2 := Lib.hid (below_then B1.out h2)
    haveI tt2 : T w2 := T.below B2.out
    clear h2 B1
    go_wp2
    go_ret
    exact ⟨rfl, B2.out⟩
  | false =>
    obtain ⟨r, hr⟩ : ∃ r, parseR s = r := ⟨_, rfl⟩
    obtain ⟨l, e⟩ := r
    have HP := Lib.hid (fun (W : World) (_ : T W) => parse_at hr (great_few hg) hs W)
    by_cases he : e = 0
    case neg =>
      obtain rfl := parse_err hr he
      have q1 : (e != 0) = true := by simpa using he
      clear hs hg hr he
      go_enter Tryz.func8, Tryz.ntmps8
      go_wp2_with fail
      refine (HG.out w).mono ?_
      rintro e1 w1 ⟨rfl, h1⟩
      have B1 := Lib.hid h1
      haveI tt1 : T w1 := T.below B1.out
      clear h1
      go_wp2_with fail
      refine (HP.out w1 inferInstance).mono ?_
      rintro e2 w2 ⟨u, rfl, ⟨Pu, ku⟩, h2⟩
      have B2 := Lib.hid (below_then B1.out h2)
      haveI tt2 : T w2 := T.below B2.out
      clear h2 B1
      obtain ⟨ua, uc, rfl⟩ := vs_slice ku
      have U2 := Lib.hid ku
      clear ku
      go_wp2_with fail
      refine (awake_any w2).mono ?_
      rintro e3 w3 ⟨rfl, h3⟩
      have B3 := Lib.hid (below_then B2.out h3)
      haveI tt3 : T w3 := T.below B3.out
      have U3 := Lib.hid (U2.out.below h3)
      clear h3 U2 B2
      go_wp2
      go_ret
      exact ⟨rfl, B3.out⟩
    case pos =>
      subst he
      have hck := (print_parse hr).1
      have hs0 := (print_parse hr).2.2.1
      have ht := (ck_zero hck).1
      have hfew := great_few hg hs0
      obtain ⟨hch, hsum⟩ := parse_lexemes hr
      obtain ⟨X, hX⟩ : ∃ X, (scanR s).1 = X := ⟨_, rfl⟩
      rw [hX] at hsum hfew
      rw [← sumT_all] at hsum
      obtain ⟨cs, hcs⟩ : ∃ cs, chrL l = cs := ⟨_, rfl⟩
      have HSC := Lib.hid (fun (W : World) (_ : T W) => scan_any s hs W)
      rw [show scanR s = (X, 0) from Prod.ext hX hs0] at HSC
      have HST := Lib.hid (fun (W : World) (_ : T W) => strip_any s cs 0 hs W (by rw [← hcs, hch]; exact Prod.ext rfl hs0))
      have HCH := Lib.hid (fun u P W (_ : T W) (h : VsAt W P u l) => charsT_any l u P W h (by omega) cs 0 (by unfold charR; rw [if_pos hck, hcs]))
      have HCN := Lib.hid (fun u P (q : Nat) W (_ : T W) (h1 : 1 ≤ q) (h2 : q ≤ 11) (h : VsAt W P u l) => countT_any l q u P W h (by omega) ((cntL q l : Nat) : Int) 0 (by unfold countR; rw [if_pos hck, if_neg (by omega)]))
      have HSM := Lib.hid hsum
      have HTL := Lib.hid (fun k => sumT_le l k)
      have HNL := Lib.hid (fun X => ncl_le X)
      have hmax := max3
      clear hs hg hr hck hs0 hch hsum hX hcs
      go_enter Tryz.func8, Tryz.ntmps8
      go_wp2_with fail
      refine (HG.out w).mono ?_
      rintro e1 w1 ⟨rfl, h1⟩
      have B1 := Lib.hid h1
      haveI tt1 : T w1 := T.below B1.out
      clear h1
      go_wp2_with fail
      refine (HP.out w1 inferInstance).mono ?_
      rintro e2 w2 ⟨u, rfl, ⟨Pu, ku⟩, h2⟩
      have B2 := Lib.hid (below_then B1.out h2)
      haveI tt2 : T w2 := T.below B2.out
      clear h2 B1
      obtain ⟨ua, uc, rfl⟩ := vs_slice ku
      have U2 := Lib.hid ku
      clear ku
      go_wp2_with fail
      refine (HSC.out w2 inferInstance).mono ?_
      rintro e3 w3 ⟨x, rfl, hx, h3⟩
      have B3 := Lib.hid (below_then B2.out h3)
      haveI tt3 : T w3 := T.below B3.out
      have U3 := Lib.hid (U2.out.below h3)
      have X3 := Lib.hid hx
      obtain ⟨xa, xc, rfl⟩ := hx.slice
      clear h3 hx B2 U2
      go_wp2_with fail
      refine (HST.out w3 inferInstance).mono ?_
      rintro e4 w4 ⟨rfl, h4⟩
      have B4 := Lib.hid (below_then B3.out h4)
      haveI tt4 : T w4 := T.below B4.out
      have U4 := Lib.hid (U3.out.below h4)
      have X4 := Lib.hid (X3.out.below h4)
      clear h4 U3 X3 B3
      go_wp2_with fail
      refine (HCH.out _ _ w4 inferInstance U4.out).mono ?_
      rintro e5 w5 ⟨rfl, h5⟩
      have B5 := Lib.hid (below_then B4.out h5)
      haveI tt5 : T w5 := T.below B5.out
      have U5 := Lib.hid (U4.out.below h5)
      have X5 := Lib.hid (X4.out.below h5)
      clear h5 U4 X4 B4
      go_wp2
      go_loopw [11, 56] (fun wv iv wr => ∃ j n : Nat, j ≤ X.length ∧ wv = .int .i64 n ∧ iv = .int .i64 j ∧ Hid (n = nclL (X.take j)) ∧ Below w5.heap.size w5 wr) (fun _ iv _ => X.length - (intOf iv).toNat)
      case atStart => exact ⟨0, 0, Nat.zero_le _, rfl, rfl, Lib.hid (by simp [nclL]), Below.refl _ _⟩
      case round =>
        obtain ⟨j, n, hj, rfl, rfl, HN, hB⟩ := hrel
        obtain ⟨wk, rfl⟩ : ∃ x, x = wr := ⟨_, rfl⟩
        have HB := Lib.hid hB
        have hn : n ≤ 1000 := by
          have h1 := HNL.out (X.take j)
          have h2 := HN.out
          rw [List.length_take] at h1
          omega
        by_cases hlt : j < X.length
        · obtain ⟨y, hy⟩ : ∃ y, X[j] = y := ⟨_, rfl⟩
          obtain ⟨bb, off, rfl, d1, d2, d3, d4⟩ := lexAt_cells X5.out hlt hB hy
          have hst := ncl_succ X j hlt
          rw [hy, ← HN.out] at hst
          have i0 : (0 : Int) ≤ (j : Int) := by omega
          have i1 : (j : Int) < (X.length : Int) := by omega
          have HBA := Lib.hid (hB.trans ((below_alloc wk (.cells #[intV y.k, sV y.n, sV y.v, intV y.o] 52)).mono hB.size))
          obtain ⟨yk, hyk⟩ : ∃ z, y.k = z := ⟨_, rfl⟩
          rw [hyk] at d1 hst HBA
          by_cases h3 : yk = 3
          · have q3 : (yk != 3) = false := by simp [h3]
            rw [if_pos h3] at hst
            have HN2 := Lib.hid (show n = nclL (X.take (j + 1)) by omega)
            clear hst h3 hyk hy hB HB
            go_wp2
            go_roundw
            case rel => exact ⟨j + 1, n, by omega, rfl, by go_num, HN2, HBA.out⟩
            case measure => simp [intOf]; omega
          · have q3 : (yk != 3) = true := by simpa using h3
            rw [if_neg h3] at hst
            have HN2 := Lib.hid (show n + 1 = nclL (X.take (j + 1)) by omega)
            have wn : IntKind.i64.wrap ((n : Int) + 1) = ((n + 1 : Nat) : Int) := by rw [show (n : Int) + 1 = ((n + 1 : Nat) : Int) by omega]; exact IntWalk.i64_in _ (by omega)
            clear hst h3 hyk hy hB HB
            go_wp2
            go_roundw
            case rel => exact ⟨j + 1, n + 1, by omega, by go_num, by go_num, HN2, HBA.out⟩
            case measure => simp [intOf]; omega
        · obtain rfl : j = X.length := by omega
          have HWN := Lib.hid (show n = sumT (fun c => cntL c l) 11 by have := HN.out; rw [List.take_length] at this; rw [this, HSM.out])
          obtain ⟨w6, rfl⟩ : ∃ x, x = wk := ⟨_, rfl⟩
          have B6 := Lib.hid (below_then B5.out hB)
          haveI tt6 : T w6 := T.below B6.out
          have U6 := Lib.hid (U5.out.below hB)
          clear hB HB HN B5 U5 X5
          go_wp2
          go_loopw [14, 15] (fun nv kv wr => ∃ m q : Nat, 1 ≤ q ∧ q ≤ 12 ∧ nv = .int .i64 m ∧ kv = .int .i64 q ∧ Hid (m = sumT (fun c => cntL c l) (q - 1)) ∧ Below w6.heap.size w6 wr) (fun _ kv _ => 12 - (intOf kv).toNat)
          case atStart => exact ⟨0, 1, by omega, by omega, rfl, rfl, Lib.hid rfl, Below.refl _ _⟩
          case round =>
            obtain ⟨m, q, hq1, hq2, rfl, rfl, HM, hB⟩ := hrel
            obtain ⟨wk, rfl⟩ : ∃ x, x = wr := ⟨_, rfl⟩
            have B7 := Lib.hid (below_then B6.out hB)
            haveI tt7 : T wk := T.below B7.out
            have U7 := Lib.hid (U6.out.below hB)
            have HB := Lib.hid hB
            clear hB
            by_cases hlt : q ≤ 11
            · have q5 : decide ((q : Int) ≤ 11) = true := decide_eq_true (by omega)
              have q6 : (q : Int) ≤ 11 := by omega
              obtain ⟨c, hc⟩ : ∃ c, cntL q l = c := ⟨_, rfl⟩
              have HCQ := Lib.hid (HCN.out _ _ q wk inferInstance hq1 hlt U7.out)
              rw [hc] at HCQ
              have hmb : m ≤ 50000 := by
                have h1 := HTL.out (q - 1)
                have h2 := HM.out
                have h3 : (q - 1) * tots l ≤ 11 * 4096 := Nat.mul_le_mul (by omega) ht
                omega
              have hcb : c ≤ 4096 := by rw [← hc]; exact Nat.le_trans ((cnt_tot q).2 l) ht
              have HM2 := Lib.hid (show m + c = sumT (fun c => cntL c l) (q + 1 - 1) by
                obtain ⟨k, rfl⟩ : ∃ k, q = k + 1 := ⟨q - 1, by omega⟩
                have := HM.out
                rw [Nat.add_sub_cancel] at this ⊢
                rw [sumT, ← this, hc])
              have ws : IntKind.i64.wrap ((m : Int) + (c : Int)) = ((m + c : Nat) : Int) := by rw [show (m : Int) + (c : Int) = ((m + c : Nat) : Int) by omega]; exact IntWalk.i64_in _ (by omega)
              have wq : IntKind.i64.wrap ((q : Int) + 1) = ((q + 1 : Nat) : Int) := by rw [show (q : Int) + 1 = ((q + 1 : Nat) : Int) by omega]; exact IntWalk.i64_in _ (by omega)
              clear hc hmb hcb
              go_wp2_with fail
              refine HCQ.out.mono ?_
              rintro e8 w8 ⟨rfl, h8⟩
              have B8 := Lib.hid (below_then HB.out h8)
              clear h8 HCQ
              go_wp2
              go_roundw
              case rel => exact ⟨m + c, q + 1, by omega, by omega, by go_num, by go_num, HM2, B8.out⟩
              case measure => simp [intOf]; omega
            · have hq : q = 12 := by omega
              have q5 : decide ((q : Int) ≤ 11) = false := decide_eq_false (by omega)
              have q7 : ((m : Int) == (n : Int)) = true := by
                have h1 := HM.out
                have h2 := HWN.out
                rw [hq] at h1
                rw [beq_iff_eq]
                show (m : Int) = (n : Int)
                have : m = n := h1.trans h2.symm
                omega
              clear hq
              go_wp2_with fail
              refine (awake_any wk).mono ?_
              rintro e8 w8 ⟨rfl, h8⟩
              have B8 := Lib.hid (below_then B7.out h8)
              clear h8
              go_wp2
              go_ret
              exact ⟨rfl, B8.out⟩
theorem lexemes_w (w : World) [T w] (s : ByteArray) (hs : s.size ≤ maxLen) :
    Calls Tryz.prog 8 #[.string s] w fun e w' => e = .returned (.bool true) ∧ Below w.heap.size w w' := by
  have := lexemes_law s.data.toList w hs
  unfold sV at this
  rwa [baL_list] at this
end Go.Proofs.YtmfcepfagbkceaaGreatDoor
