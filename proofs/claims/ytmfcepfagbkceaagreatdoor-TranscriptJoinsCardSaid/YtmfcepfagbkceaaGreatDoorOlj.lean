/- Stage 10 (transcript): TrJoins, put together by merge10.py. -/
import Derived.Test.YtmfcepfagbkceaaGreatDoorOlw
import Derived.Test.YtmfcepfagbkceaaGreatDoorOy
namespace Go.Proofs.YtmfcepfagbkceaaGreatDoor
set_option linter.unusedSimpArgs false
set_option linter.unusedVariables false
set_option maxRecDepth 100000
open Go.RowKit Go.Deep
abbrev strT : TypeId := 9
abbrev intT : TypeId := 3
theorem info_strJ : (Tryz.prog.info? strT).map (fun i => (i.zero, i.size, i.bytes)) = some (some (.string ⟨#[]⟩), 1, 16) := by kernel_rfl
theorem info_intJ : (Tryz.prog.info? intT).map (fun i => (i.zero, i.size, i.bytes)) = some (some (.int .i64 0), 1, 8) := by kernel_rfl
theorem rows_apartJ {W : World} {B B' s s' n n' : Nat} {e e' : TypeId} {v v' : Value} {xs xs' : List Value} (h : W.ownsRow B e s v n xs) (h' : W.ownsRow B' e' s' v' n' xs') (hne : e ≠ e') {b : Nat} (hb : v.ownBlock = some b) : v'.ownBlock ≠ some b := fun hb' => by
  rcases h.2 with ⟨rfl, _⟩ | ⟨g, cap, cur, rfl, _, hg, _⟩
  · cases hb
  · rcases h'.2 with ⟨rfl, _⟩ | ⟨g', cap', cur', rfl, _, hg', _⟩
    · cases hb'
    · have e1 : g = b := by simpa [Value.ownBlock] using hb
      have e2 : g' = b := by simpa [Value.ownBlock] using hb'
      subst e1 e2
      rw [hg] at hg'
      injection hg' with h1
      injection h1 with _ h2 _
      exact hne h2
structure JI (B : Nat) (w6 : World) (L : List (List Nd)) (k : Int) (j : Nat) (tv cv dv : Value) (wr : World) : Prop where
  t : wr.ownsRow B strT 1 tv j ((L.take j).map fun y => sV (chrL y))
  c : wr.ownsRow B intT 1 cv j ((L.take j).map fun y => intV (cntL k y : Nat))
  d : wr.ownsRow B intT 1 dv j ((L.take j).map fun y => intV (deps y : Nat))
  ne : ∀ b, cv.ownBlock = some b → dv.ownBlock ≠ some b
  be : Below w6.heap.size w6 wr
  bs : B ≤ wr.heap.size
theorem JI.below {B : Nat} {w6 : World} {L : List (List Nd)} {k : Int} {j : Nat} {tv cv dv : Value} {wr W : World} (h : JI B w6 L k j tv cv dv wr) (hb : Below wr.heap.size wr W) : JI B w6 L k j tv cv dv W :=
  ⟨own_keepT h.t fun g hg => hb.block g (h.t.lt g hg).2, own_keepT h.c fun g hg => hb.block g (h.c.lt g hg).2, own_keepT h.d fun g hg => hb.block g (h.d.lt g hg).2, h.ne, h.be.trans (hb.mono h.be.size), Nat.le_trans h.bs hb.size⟩
theorem one_row {v : Value} {j : Nat} {B : Nat} {e : TypeId} {W : World} {xs : List Value} (h : W.ownsRow B e 1 v j xs) : ∃ a c, v = .slice a j c := by
  rcases h.2 with ⟨rfl, rfl⟩ | ⟨g, cap, cur, rfl, _⟩
  · exact ⟨none, 0, rfl⟩
  · exact ⟨_, _, rfl⟩
theorem own_lt {W W' : World} {B : Nat} {e : TypeId} {v : Value} {n : Nat} {xs : List Value} {r : Option Nat} (h : W.ownsRow B e 1 v n xs) (hg : W.grownBy W' r) (hne : ∀ b, v.ownBlock = some b → r ≠ some b) : W'.ownsRow B e 1 v n xs :=
  own_keepT h fun g hb => hg.block g (h.lt g hb).2 (fun e => hne g hb e.symm)
theorem max2i (a b c : Nat) (h : max a b = c) : max (a : Int) (b : Int) = (c : Int) := by omega
set_option maxHeartbeats 16000000 in
theorem joins_law (la lb : List Nd) (kd : Int) (va vb : Value) (P Q : Nat → Prop) (w : World) [T w] (hva : VsAt w P va la) (hvb : VsAt w Q vb lb) (hla : la.length ≤ maxLen) (hlb : lb.length ≤ maxLen) (hkd : 0 ≤ kd ∧ kd < 256) :
    Calls Tryz.prog 7 #[va, vb, .int .u8 kd] w fun e w' => e = .returned (.bool true) ∧ Below w.heap.size w w' := by
  have V0 := Lib.hid hva
  have U0 := Lib.hid hvb
  obtain ⟨a, ca, rfl⟩ := vs_slice hva
  obtain ⟨b, cb, rfl⟩ := vs_slice hvb
  obtain ⟨fa, hfa⟩ : ∃ b, fineR la = b := ⟨_, rfl⟩
  obtain ⟨fb, hfb⟩ : ∃ b, fineR lb = b := ⟨_, rfl⟩
  have HFA := Lib.hid (fine_any la fa hfa hla _ P w hva)
  have HFB := Lib.hid (fun W (h : VsAt W Q (.slice b lb.length cb) lb) => fine_any lb fb hfb hlb _ Q W h)
  obtain ⟨m, hm, hmk⟩ : ∃ m : Nat, m < 11 ∧ kd % 11 = (m : Int) := ⟨(kd % 11).toNat, by omega, by omega⟩
  clear hva hvb hla hlb
  cases fa
  case false =>
    clear hfa hfb hm hmk HFB
    go_enter Tryz.func7, Tryz.ntmps7
    go_wp2_with fail
    refine (HFA.out).mono ?_
    rintro e1 w1 ⟨rfl, h1⟩
    have B1 := Lib.hid h1
    haveI tt1 : T w1 := T.below B1.out
    have V1 := Lib.hid (V0.out.below h1)
    have U1 := Lib.hid (U0.out.below h1)
    clear h1 V0 U0
    go_wp2_with fail
    refine (awake_any w1).mono ?_
    rintro e2 w2 ⟨rfl, h2⟩
    have B2 := Lib.hid (below_then B1.out h2)
    haveI tt2 : T w2 := T.below B2.out
    have V2 := Lib.hid (V1.out.below h2)
    have U2 := Lib.hid (U1.out.below h2)
    clear h2 V1 U1 B1
    go_wp2
    go_ret
    exact ⟨rfl, B2.out⟩
  case true =>
    cases fb
    case false =>
      clear hfa hfb hm hmk
      go_enter Tryz.func7, Tryz.ntmps7
      go_wp2_with fail
      refine (HFA.out).mono ?_
      rintro e1 w1 ⟨rfl, h1⟩
      have B1 := Lib.hid h1
      haveI tt1 : T w1 := T.below B1.out
      have V1 := Lib.hid (V0.out.below h1)
      have U1 := Lib.hid (U0.out.below h1)
      clear h1 V0 U0
      go_wp2_with fail
      refine (HFB.out w1 U1.out).mono ?_
      rintro e2 w2 ⟨rfl, h2⟩
      have B2 := Lib.hid (below_then B1.out h2)
      haveI tt2 : T w2 := T.below B2.out
      have V2 := Lib.hid (V1.out.below h2)
      have U2 := Lib.hid (U1.out.below h2)
      clear h2 V1 U1 B1
      go_wp2_with fail
      refine (awake_any w2).mono ?_
      rintro e3 w3 ⟨rfl, h3⟩
      have B3 := Lib.hid (below_then B2.out h3)
      haveI tt3 : T w3 := T.below B3.out
      have V3 := Lib.hid (V2.out.below h3)
      have U3 := Lib.hid (U2.out.below h3)
      clear h3 V2 U2 B2
      go_wp2
      go_ret
      exact ⟨rfl, B3.out⟩
    case true =>
      obtain ⟨a1, a2⟩ := fine_of hfa
      obtain ⟨b1, b2⟩ := fine_of hfb
      have ta := (fine_short a1 a2).1
      have tb := (fine_short b1 b2).1
      have lna := len_tots la
      have lnb := len_tots lb
      obtain ⟨C, hC⟩ : ∃ C, la ++ lb = C := ⟨_, rfl⟩
      have tC : tots C ≤ 80 := by rw [← hC, tots_append]; omega
      have lnC := len_tots C
      have hfl : [la, lb].flatten = C := by rw [← hC]; simp
      have HCAT := Lib.hid (fun W (h1 : VsAt W P (.slice a la.length ca) la) (h2 : VsAt W Q (.slice b lb.length cb) lb) => concatN_any [la, lb] (by simp) (by rw [hfl]; omega) _ _ (lln_lit W [.slice a la.length ca, .slice b lb.length cb] [la, lb] rfl (fun j hj => by
        have hj2 : j = 0 ∨ j = 1 := by simp at hj; omega
        rcases hj2 with rfl | rfl
        · exact ⟨P, h1⟩
        · exact ⟨Q, h2⟩)))
      rw [hfl] at HCAT
      obtain ⟨g, hg⟩ : ∃ g, greatR C = g := ⟨_, rfl⟩
      have HGR := Lib.hid (fun u R W (h : VsAt W R u C) => great10_any C g hg (by omega) u R W h)
      obtain ⟨k, hk⟩ : ∃ k, ckR C = k := ⟨_, rfl⟩
      have HCK := Lib.hid (fun u R W (_ : T W) (h : VsAt W R u C) => checkT_any C u R W h (by omega) k hk)
      cases g
      case true =>
        clear hfa hfb hm hmk a1 a2 b1 b2 ta tb lna lnb hC tC lnC hfl hg hk
        go_enter Tryz.func7, Tryz.ntmps7
        go_wp2_with fail
        refine (HFA.out).mono ?_
        rintro e1 w1 ⟨rfl, h1⟩
        have B1 := Lib.hid h1
        haveI tt1 : T w1 := T.below B1.out
        have V1 := Lib.hid (V0.out.below h1)
        have U1 := Lib.hid (U0.out.below h1)
        clear h1 V0 U0
        go_wp2_with fail
        refine (HFB.out w1 U1.out).mono ?_
        rintro e2 w2 ⟨rfl, h2⟩
        have B2 := Lib.hid (below_then B1.out h2)
        haveI tt2 : T w2 := T.below B2.out
        have V2 := Lib.hid (V1.out.below h2)
        have U2 := Lib.hid (U1.out.below h2)
        clear h2 V1 U1 B1
        go_wp2_with fail
        refine (HCAT.out w2 V2.out U2.out).mono ?_
        rintro e3 w3 ⟨u, rfl, ⟨Pu, ku⟩, h3'⟩
        have h3 := below_then (below_alloc w2 (.cells #[.slice a la.length ca, .slice b lb.length cb] lT)) h3'
        obtain ⟨ua, uc, rfl⟩ := vs_slice ku
        have B3 := Lib.hid (below_then B2.out h3)
        haveI tt3 : T w3 := T.below B3.out
        have V3 := Lib.hid (V2.out.below h3)
        have U3 := Lib.hid (U2.out.below h3)
        have X3 := Lib.hid ku
        clear h3 h3' V2 U2 B2 ku
        go_wp2_with fail
        refine (HGR.out _ _ w3 X3.out).mono ?_
        rintro e4 w4 ⟨rfl, h4⟩
        have B4 := Lib.hid (below_then B3.out h4)
        haveI tt4 : T w4 := T.below B4.out
        have V4 := Lib.hid (V3.out.below h4)
        have U4 := Lib.hid (U3.out.below h4)
        have X4 := Lib.hid (X3.out.below h4)
        clear h4 V3 U3 X3 B3
        go_wp2_with fail
        refine (awake_any w4).mono ?_
        rintro e5 w5 ⟨rfl, h5⟩
        have B5 := Lib.hid (below_then B4.out h5)
        haveI tt5 : T w5 := T.below B5.out
        have V5 := Lib.hid (V4.out.below h5)
        have U5 := Lib.hid (U4.out.below h5)
        have X5 := Lib.hid (X4.out.below h5)
        clear h5 V4 U4 X4 B4
        go_wp2
        go_ret
        exact ⟨rfl, B5.out⟩
      case false =>
        by_cases hk0 : k = 0
        case neg =>
          have q1 : (k != 0) = true := by simpa using hk0
          clear hfa hfb hm hmk a1 a2 b1 b2 ta tb lna lnb hC tC lnC hfl hg hk hk0
          go_enter Tryz.func7, Tryz.ntmps7
          go_wp2_with fail
          refine (HFA.out).mono ?_
          rintro e1 w1 ⟨rfl, h1⟩
          have B1 := Lib.hid h1
          haveI tt1 : T w1 := T.below B1.out
          have V1 := Lib.hid (V0.out.below h1)
          have U1 := Lib.hid (U0.out.below h1)
          clear h1 V0 U0
          go_wp2_with fail
          refine (HFB.out w1 U1.out).mono ?_
          rintro e2 w2 ⟨rfl, h2⟩
          have B2 := Lib.hid (below_then B1.out h2)
          haveI tt2 : T w2 := T.below B2.out
          have V2 := Lib.hid (V1.out.below h2)
          have U2 := Lib.hid (U1.out.below h2)
          clear h2 V1 U1 B1
          go_wp2_with fail
          refine (HCAT.out w2 V2.out U2.out).mono ?_
          rintro e3 w3 ⟨u, rfl, ⟨Pu, ku⟩, h3'⟩
          have h3 := below_then (below_alloc w2 (.cells #[.slice a la.length ca, .slice b lb.length cb] lT)) h3'
          obtain ⟨ua, uc, rfl⟩ := vs_slice ku
          have B3 := Lib.hid (below_then B2.out h3)
          haveI tt3 : T w3 := T.below B3.out
          have V3 := Lib.hid (V2.out.below h3)
          have U3 := Lib.hid (U2.out.below h3)
          have X3 := Lib.hid ku
          clear h3 h3' V2 U2 B2 ku
          go_wp2_with fail
          refine (HGR.out _ _ w3 X3.out).mono ?_
          rintro e4 w4 ⟨rfl, h4⟩
          have B4 := Lib.hid (below_then B3.out h4)
          haveI tt4 : T w4 := T.below B4.out
          have V4 := Lib.hid (V3.out.below h4)
          have U4 := Lib.hid (U3.out.below h4)
          have X4 := Lib.hid (X3.out.below h4)
          clear h4 V3 U3 X3 B3
          go_wp2_with fail
          refine (HCK.out _ _ w4 inferInstance X4.out).mono ?_
          rintro e5 w5 ⟨rfl, h5⟩
          have B5 := Lib.hid (below_then B4.out h5)
          haveI tt5 : T w5 := T.below B5.out
          have V5 := Lib.hid (V4.out.below h5)
          have U5 := Lib.hid (U4.out.below h5)
          have X5 := Lib.hid (X4.out.below h5)
          clear h5 V4 U4 X4 B4
          go_wp2_with fail
          refine (awake_any w5).mono ?_
          rintro e6 w6 ⟨rfl, h6⟩
          have B6 := Lib.hid (below_then B5.out h6)
          haveI tt6 : T w6 := T.below B6.out
          have V6 := Lib.hid (V5.out.below h6)
          have U6 := Lib.hid (U5.out.below h6)
          have X6 := Lib.hid (X5.out.below h6)
          clear h6 V5 U5 X5 B5
          go_wp2
          go_ret
          exact ⟨rfl, B6.out⟩
        case pos =>
          subst hk0
          obtain ⟨K, hK⟩ : ∃ K : Int, (m : Int) + 1 = K := ⟨_, rfl⟩
          have wk1 : IntKind.i64.wrap ((m : Int) + 1) = K := by rw [hK]; exact IntWalk.i64_in _ (by omega)
          have hall : ∀ y ∈ [la, lb, C], ckR y = 0 ∧ tots y ≤ 80 := fun y hy => by
            simp only [List.mem_cons, List.not_mem_nil, or_false] at hy
            rcases hy with rfl | rfl | rfl
            · exact ⟨a2, by omega⟩
            · exact ⟨b2, by omega⟩
            · exact ⟨hk, tC⟩
          have HLL := Lib.hid (fun W u R (h1 : VsAt W P (.slice a la.length ca) la) (h2 : VsAt W Q (.slice b lb.length cb) lb) (h3 : VsAt W R u C) => lln_lit W [.slice a la.length ca, .slice b lb.length cb, u] [la, lb, C] rfl (fun j hj => by
            have hj2 : j = 0 ∨ j = 1 ∨ j = 2 := by simp at hj; omega
            rcases hj2 with rfl | rfl | rfl
            · exact ⟨P, h1⟩
            · exact ⟨Q, h2⟩
            · exact ⟨R, h3⟩))
          have HCH := Lib.hid (fun y (hy : y ∈ [la, lb, C]) u R W (_ : T W) (h : VsAt W R u y) => charsT_any y u R W h (by have := (hall y hy).2; omega) (chrL y) 0 (by unfold charR; rw [if_pos (hall y hy).1]))
          have HCN := Lib.hid (fun y (hy : y ∈ [la, lb, C]) u R W (_ : T W) (h : VsAt W R u y) => countT_any y K u R W h (by have := (hall y hy).2; omega) ((cntL K y : Nat) : Int) 0 (by unfold countR; rw [if_pos (hall y hy).1, if_neg (by omega)]))
          have HDP := Lib.hid (fun y (hy : y ∈ [la, lb, C]) u R W (_ : T W) (h : VsAt W R u y) => depthT_any y u R W h (by have := (hall y hy).2; omega) ((deps y : Nat) : Int) 0 (by unfold depthR; rw [if_pos (hall y hy).1]))
          have HBD := Lib.hid (fun y (hy : y ∈ [la, lb, C]) => show (chrL y).length ≤ 65536 ∧ cntL K y ≤ 80 ∧ deps y ≤ 16 from ⟨chr_short (hall y hy).1, Nat.le_trans ((cnt_tot K).2 y) (hall y hy).2, (ck_zero (hall y hy).1).2.1⟩)
          have HSUM := Lib.hid (show chrL C = chrL la ++ chrL lb ∧ cntL K C = cntL K la + cntL K lb ∧ deps C = max (deps la) (deps lb) by rw [← hC]; exact ⟨chr_append _ _, cnt_append _ _ _, deps_append _ _⟩)
          have hmax := max3
          obtain ⟨si, hsi, hsz0, hsz1, hsz2⟩ := info_parts info_strJ
          obtain ⟨ii, hii, hiz0, hiz1, hiz2⟩ := info_parts info_intJ
          have hkk : kd % 11 + 1 = K := by omega
          clear hfa hfb hm a1 a2 b1 b2 ta tb lna lnb hC tC lnC hfl hg hk hall hK hkk
          go_enter Tryz.func7, Tryz.ntmps7
          go_wp2_with fail
          refine (HFA.out).mono ?_
          rintro e1 w1 ⟨rfl, h1⟩
          have B1 := Lib.hid h1
          haveI tt1 : T w1 := T.below B1.out
          have V1 := Lib.hid (V0.out.below h1)
          have U1 := Lib.hid (U0.out.below h1)
          clear h1 V0 U0
          go_wp2_with fail
          refine (HFB.out w1 U1.out).mono ?_
          rintro e2 w2 ⟨rfl, h2⟩
          have B2 := Lib.hid (below_then B1.out h2)
          haveI tt2 : T w2 := T.below B2.out
          have V2 := Lib.hid (V1.out.below h2)
          have U2 := Lib.hid (U1.out.below h2)
          clear h2 V1 U1 B1
          go_wp2_with fail
          refine (HCAT.out w2 V2.out U2.out).mono ?_
          rintro e3 w3 ⟨u, rfl, ⟨Pu, ku⟩, h3'⟩
          have h3 := below_then (below_alloc w2 (.cells #[.slice a la.length ca, .slice b lb.length cb] lT)) h3'
          obtain ⟨ua, uc, rfl⟩ := vs_slice ku
          have B3 := Lib.hid (below_then B2.out h3)
          haveI tt3 : T w3 := T.below B3.out
          have V3 := Lib.hid (V2.out.below h3)
          have U3 := Lib.hid (U2.out.below h3)
          have X3 := Lib.hid ku
          clear h3 h3' V2 U2 B2 ku
          go_wp2_with fail
          refine (HGR.out _ _ w3 X3.out).mono ?_
          rintro e4 w4 ⟨rfl, h4⟩
          have B4 := Lib.hid (below_then B3.out h4)
          haveI tt4 : T w4 := T.below B4.out
          have V4 := Lib.hid (V3.out.below h4)
          have U4 := Lib.hid (U3.out.below h4)
          have X4 := Lib.hid (X3.out.below h4)
          clear h4 V3 U3 X3 B3
          go_wp2_with fail
          refine (HCK.out _ _ w4 inferInstance X4.out).mono ?_
          rintro e5 w5 ⟨rfl, h5⟩
          have B5 := Lib.hid (below_then B4.out h5)
          haveI tt5 : T w5 := T.below B5.out
          have V5 := Lib.hid (V4.out.below h5)
          have U5 := Lib.hid (U4.out.below h5)
          have X5 := Lib.hid (X4.out.below h5)
          clear h5 V4 U4 X4 B4
          have HL6 := Lib.hid (HLL.out w5 _ _ V5.out U5.out X5.out)
          obtain ⟨w6, hw6⟩ : ∃ X, w5.alloc (.cells #[.slice a la.length ca, .slice b lb.length cb, .slice ua C.length uc] lT) = X := ⟨_, rfl⟩
          have b6 : Below w5.heap.size w5 w6 := by rw [← hw6]; exact below_alloc _ _
          have L6 := Lib.hid (show LLN w6 (.slice (some ⟨w5.heap.size, 0, none⟩) 3 3) [la, lb, C] by rw [← hw6]; exact HL6.out)
          have B6 := Lib.hid (below_then B5.out b6)
          haveI tt6 : T w6 := T.below B6.out
          have HW6 := Lib.hid hw6
          have hB6 := B6.out.size
          clear HL6 hw6 b6 B5 V5 U5 X5 HLL HCK HCAT HGR
          go_upto_region 10 with fail
          rw [HW6.out]
          clear hmk wk1
          obtain ⟨L, hL⟩ : ∃ L, [la, lb, C] = L := ⟨_, rfl⟩
          have hlen : L.length = 3 := by rw [← hL]; rfl
          have HLE := Lib.hid hL
          have HLN := Lib.hid hlen
          rw [hL] at L6 HCH HCN HDP HBD
          clear hL hlen
          go_loopw [9, 10, 11, 50] (fun tv cv dv iv wr => ∃ j : Nat, j ≤ 3 ∧ iv = .int .i64 j ∧ Hid (JI w6.heap.size w6 L K j tv cv dv wr)) (fun _ _ _ iv _ => 3 - (intOf iv).toNat)
          case atStart => exact ⟨0, Nat.zero_le _, rfl, Lib.hid ⟨World.ownsRow_nil _ _ _ _, World.ownsRow_nil _ _ _ _, World.ownsRow_nil _ _ _ _, fun b h => (nomatch h), Below.refl _ _, Nat.le_refl _⟩⟩
          case round =>
            obtain ⟨j, hj, rfl, HJ⟩ := hrel
            obtain ⟨wk, rfl⟩ : ∃ x, x = wr := ⟨_, rfl⟩
            obtain ⟨tv, rfl⟩ : ∃ x, x = u9 := ⟨_, rfl⟩
            obtain ⟨cv, rfl⟩ : ∃ x, x = u10 := ⟨_, rfl⟩
            obtain ⟨dv, rfl⟩ : ∃ x, x = u11 := ⟨_, rfl⟩
            by_cases hlt : j < 3
            · have hltL : j < L.length := by rw [HLN.out]; exact hlt
              obtain ⟨bb, off, u, cc, R, e0, hbb, c0, hu⟩ := (show LLN w6 (.slice (some ⟨w5.heap.size, 0, none⟩) 3 3) L from L6.out).elem hltL
              obtain ⟨rfl, rfl⟩ : bb = w5.heap.size ∧ off = 0 := by cases e0; exact ⟨rfl, rfl⟩
              obtain ⟨y, hy⟩ : ∃ y, L[j] = y := ⟨_, rfl⟩
              have hym : y ∈ L := by rw [← hy]; exact List.getElem_mem hltL
              rw [hy] at c0 hu
              have d0 := (HJ.out.be.cell (p := ⟨w5.heap.size, 0 + j, none⟩) hbb).trans c0
              rw [Nat.zero_add] at d0
              have Yk := Lib.hid (hu.below HJ.out.be)
              have HTK := Lib.hid (show L.take (j + 1) = L.take j ++ [y] by rw [List.take_succ_eq_append_getElem hltL, hy])
              obtain ⟨bd1, bd2, bd3⟩ := HBD.out y hym
              have HC1 := Lib.hid (HCH.out y hym)
              have HC2 := Lib.hid (HCN.out y hym)
              have HC3 := Lib.hid (HDP.out y hym)
              obtain ⟨s, hs⟩ : ∃ s, chrL y = s := ⟨_, rfl⟩
              obtain ⟨n, hn⟩ : ∃ n, cntL K y = n := ⟨_, rfl⟩
              obtain ⟨d, hd⟩ : ∃ n, deps y = n := ⟨_, rfl⟩
              rw [hs] at HC1 bd1
              rw [hn] at HC2 bd2
              rw [hd] at HC3 bd3
              have HSND := Lib.hid (And.intro hs (And.intro hn hd))
              have j0 : (0 : Int) ≤ (j : Int) := by omega
              have j1 : (j : Int) < 3 := by omega
              have j2 : (j : Int) < ((3 : Nat) : Int) := by omega
              haveI ttk : T wk := T.below (B6.out.trans (HJ.out.be.mono hB6))
              clear c0 hu e0 hbb hs hn hd hy hym
              go_wp2_with fail
              refine (HC1.out _ _ wk ttk Yk.out).mono ?_
              rintro e7 w7 ⟨rfl, h7⟩
              have J7 := Lib.hid (HJ.out.below h7)
              have Y7 := Lib.hid (Yk.out.below h7)
              haveI tt7 : T w7 := T.below (B6.out.trans (J7.out.be.mono hB6))
              clear h7 d0 HC1
              go_wp2_with fail
              refine (HC2.out _ _ w7 tt7 Y7.out).mono ?_
              rintro e8 w8 ⟨rfl, h8⟩
              have J8 := Lib.hid (J7.out.below h8)
              have Y8 := Lib.hid (Y7.out.below h8)
              haveI tt8 : T w8 := T.below (B6.out.trans (J8.out.be.mono hB6))
              clear h8 HC2 J7
              go_wp2_with fail
              refine (HC3.out _ _ w8 tt8 Y8.out).mono ?_
              rintro e9 w9 ⟨rfl, h9⟩
              have J9 := Lib.hid (J8.out.below h9)
              clear h9 HC3 J8 Yk Y7 Y8 HJ
              have q9 : w6.heap.size ≤ w9.heap.size := J9.out.bs
              have T9 := Lib.hid J9.out.t
              have C9 := Lib.hid J9.out.c
              have D9 := Lib.hid J9.out.d
              have N9 := Lib.hid J9.out.ne
              have B9 := Lib.hid J9.out.be
              obtain ⟨tl, htl⟩ : ∃ l, (L.take j).map (fun y => sV (chrL y)) = l := ⟨_, rfl⟩
              obtain ⟨cl, hcl⟩ : ∃ l, (L.take j).map (fun y => intV (cntL K y : Nat)) = l := ⟨_, rfl⟩
              obtain ⟨dl, hdl⟩ : ∃ l, (L.take j).map (fun y => intV (deps y : Nat)) = l := ⟨_, rfl⟩
              rw [htl] at T9
              rw [hcl] at C9
              rw [hdl] at D9
              have HLS := Lib.hid (And.intro htl (And.intro hcl hdl))
              obtain ⟨ta, tc, rfl⟩ := one_row T9.out
              obtain ⟨cA, cC, rfl⟩ := one_row C9.out
              obtain ⟨dA, dC, rfl⟩ := one_row D9.out
              clear J9 htl hcl hdl
              obtain ⟨wA, hwA⟩ : ∃ X, w9.alloc (.cells #[sV s] strT) = X := ⟨_, rfl⟩
              have kA : wA.heap[w9.heap.size]? = some (.cells #[sV s] strT (0, 0)) := by rw [← hwA]; exact World.alloc_heap_new _ _
              have bA : Below w9.heap.size w9 wA := by rw [← hwA]; exact below_alloc _ _
              have SA := Lib.hid (show wA.heap.size = w9.heap.size + 1 by rw [← hwA]; simp)
              have NA := Lib.hid (World.news_of_block kA)
              have TA := Lib.hid (own_keepT T9.out fun g hg => bA.block g (T9.out.lt g hg).2)
              have CA := Lib.hid (own_keepT C9.out fun g hg => bA.block g (C9.out.lt g hg).2)
              have DA := Lib.hid (own_keepT D9.out fun g hg => bA.block g (D9.out.lt g hg).2)
              have BA := Lib.hid (B9.out.trans (bA.mono (by omega)))
              have qA : w6.heap.size ≤ wA.heap.size := by have := SA.out; omega
              have HWA := Lib.hid hwA
              clear hwA kA bA T9 C9 D9 B9
              go_wp2_with (at_builtin; rw [HWA.out]; go_loud (refine wpList_append_lies _ (by rfl) _ _ 43 (by rfl) w6.heap.size strT si (.string ⟨#[]⟩) 1 16 Tryz.underlying43 hsi hsz0 hsz1 hsz2 (by rfl) (by decide) _ j tl (by rfl) TA.out ⟨w9.heap.size, 0, none⟩ 1 1 [sV s] (by rfl) (by rfl) NA.out (by intro u hu; simp only [List.mem_cons, List.mem_nil_iff, or_false] at hu; rcases hu with rfl; rfl) (by decide) (by unfold maxLen; omega) (by omega) (by omega) (w9.heap.size + 1) SA.out ?_))
              intro gt tcap wB hown hgrow hat hltB
              have TB := Lib.hid hown
              have CB := Lib.hid (own_lt CA.out hgrow fun b hb e => rows_apartJ TA.out CA.out (by decide) e hb)
              have DB := Lib.hid (own_lt DA.out hgrow fun b hb e => rows_apartJ TA.out DA.out (by decide) e hb)
              have BB := Lib.hid (BA.out.grown hgrow (by omega) fun k hk => (TA.out.lt k hk).1)
              have qB : w6.heap.size ≤ wB.heap.size := Nat.le_trans qA hgrow.size
              clear hown hgrow hat hltB TA CA DA BA SA NA HWA
              obtain ⟨wC, hwC⟩ : ∃ X, wB.alloc (.cells #[intV n] intT) = X := ⟨_, rfl⟩
              have kC : wC.heap[wB.heap.size]? = some (.cells #[intV n] intT (0, 0)) := by rw [← hwC]; exact World.alloc_heap_new _ _
              have bC : Below wB.heap.size wB wC := by rw [← hwC]; exact below_alloc _ _
              have SC := Lib.hid (show wC.heap.size = wB.heap.size + 1 by rw [← hwC]; simp)
              have NC := Lib.hid (World.news_of_block kC)
              have TC := Lib.hid (own_keepT TB.out fun g hg => bC.block g (TB.out.lt g hg).2)
              have CC := Lib.hid (own_keepT CB.out fun g hg => bC.block g (CB.out.lt g hg).2)
              have DC := Lib.hid (own_keepT DB.out fun g hg => bC.block g (DB.out.lt g hg).2)
              have BC := Lib.hid (BB.out.trans (bC.mono (by omega)))
              have qC : w6.heap.size ≤ wC.heap.size := by have := SC.out; omega
              have HWC := Lib.hid hwC
              clear hwC kC bC TB CB DB BB
              go_wp2_with (at_builtin; rw [HWC.out]; go_loud (refine wpList_append_lies _ (by rfl) _ _ 44 (by rfl) w6.heap.size intT ii (.int .i64 0) 1 8 Tryz.underlying44 hii hiz0 hiz1 hiz2 (by rfl) (by decide) _ j cl (by rfl) CC.out ⟨wB.heap.size, 0, none⟩ 1 1 [intV n] (by rfl) (by rfl) NC.out (by intro u hu; simp only [List.mem_cons, List.mem_nil_iff, or_false] at hu; rcases hu with rfl; rfl) (by decide) (by unfold maxLen; omega) (by omega) (by omega) (wB.heap.size + 1) SC.out ?_))
              intro gc ccap wD hown hgrow hat hltD
              have CD := Lib.hid hown
              have TD := Lib.hid (own_lt TC.out hgrow fun b hb e => rows_apartJ TC.out CC.out (by decide) hb e)
              have DD := Lib.hid (own_lt DC.out hgrow fun b hb e => N9.out b e hb)
              have ND := Lib.hid (show (Value.slice dA j dC).ownBlock ≠ some gc from fun e => by
                rcases hat with h | h
                · exact N9.out gc h e
                · have := (DC.out.lt gc e).2
                  have := SC.out
                  omega)
              have BD := Lib.hid (BC.out.grown hgrow (by omega) fun k hk => (CC.out.lt k hk).1)
              have qD : w6.heap.size ≤ wD.heap.size := Nat.le_trans qC hgrow.size
              have ltD := Lib.hid hltD
              clear hown hgrow hat hltD TC CC DC BC SC NC HWC
              obtain ⟨wE, hwE⟩ : ∃ X, wD.alloc (.cells #[intV d] intT) = X := ⟨_, rfl⟩
              have kE : wE.heap[wD.heap.size]? = some (.cells #[intV d] intT (0, 0)) := by rw [← hwE]; exact World.alloc_heap_new _ _
              have bE : Below wD.heap.size wD wE := by rw [← hwE]; exact below_alloc _ _
              have SE := Lib.hid (show wE.heap.size = wD.heap.size + 1 by rw [← hwE]; simp)
              have NE := Lib.hid (World.news_of_block kE)
              have TE := Lib.hid (own_keepT TD.out fun g hg => bE.block g (TD.out.lt g hg).2)
              have CE := Lib.hid (own_keepT CD.out fun g hg => bE.block g (CD.out.lt g hg).2)
              have DE := Lib.hid (own_keepT DD.out fun g hg => bE.block g (DD.out.lt g hg).2)
              have BE := Lib.hid (BD.out.trans (bE.mono (by omega)))
              have qE : w6.heap.size ≤ wE.heap.size := by have := SE.out; omega
              have HWE := Lib.hid hwE
              clear hwE kE bE TD CD DD BD
              go_wp2_with (at_builtin; rw [HWE.out]; go_loud (refine wpList_append_lies _ (by rfl) _ _ 44 (by rfl) w6.heap.size intT ii (.int .i64 0) 1 8 Tryz.underlying44 hii hiz0 hiz1 hiz2 (by rfl) (by decide) _ j dl (by rfl) DE.out ⟨wD.heap.size, 0, none⟩ 1 1 [intV d] (by rfl) (by rfl) NE.out (by intro u hu; simp only [List.mem_cons, List.mem_nil_iff, or_false] at hu; rcases hu with rfl; rfl) (by decide) (by unfold maxLen; omega) (by omega) (by omega) (wD.heap.size + 1) SE.out ?_))
              intro gd dcap wF hown hgrow hat hltF
              have HJN := Lib.hid (show JI w6.heap.size w6 L K (j + 1) (.slice (some ⟨gt, 0, none⟩) (j + 1) tcap) (.slice (some ⟨gc, 0, none⟩) (j + 1) ccap) (.slice (some ⟨gd, 0, none⟩) (j + 1) dcap) wF from by
                obtain ⟨h1, h2, h3⟩ := HLS.out
                obtain ⟨g1, g2, g3⟩ := HSND.out
                refine ⟨?_, ?_, ?_, fun b hb e => ?_, BE.out.grown hgrow (by omega) fun k hk => (DE.out.lt k hk).1, Nat.le_trans qE hgrow.size⟩
                · rw [HTK.out, List.map_append, h1, List.map_cons, List.map_nil, g1]
                  exact own_lt TE.out hgrow fun b hb e => rows_apartJ TE.out DE.out (by decide) hb e
                · rw [HTK.out, List.map_append, h2, List.map_cons, List.map_nil, g2]
                  exact own_lt CE.out hgrow fun b hb e => by
                    have : gc = b := by simpa [Value.ownBlock] using hb
                    subst this
                    exact ND.out e
                · rw [HTK.out, List.map_append, h3, List.map_cons, List.map_nil, g3]
                  exact hown
                · have e1 : gc = b := by simpa [Value.ownBlock] using hb
                  have e2 : gd = b := by simpa [Value.ownBlock] using e
                  subst e1
                  rcases hat with h | h
                  · exact ND.out (by rw [h, e2])
                  · have := ltD.out
                    omega)
              clear hown hgrow hat hltF TE CE DE BE SE NE HWE ltD ND
              have wj : IntKind.i64.wrap ((j : Int) + 1) = ((j + 1 : Nat) : Int) := by rw [show (j : Int) + 1 = ((j + 1 : Nat) : Int) by omega]; exact IntWalk.i64_in _ (by omega)
              go_wp2
              refine ⟨⟨j + 1, by omega, ?_, HJN⟩, ?_⟩
              · first | rfl | (rw [show ((j + 1 : Nat) : Int) = (j : Int) + 1 by omega])
              · simp [intOf]; omega
            · obtain rfl : j = 3 := by omega
              obtain ⟨rfl⟩ : L = [la, lb, C] := HLE.out.symm
              obtain ⟨gt, tcap, rfl⟩ : ∃ g c, tv = .slice (some ⟨g, 0, none⟩) 3 c := by
                rcases HJ.out.t.2 with ⟨_, h⟩ | ⟨g, cap, cur, h, _⟩
                · omega
                · exact ⟨g, cap, h⟩
              obtain ⟨gc, ccap, rfl⟩ : ∃ g c, cv = .slice (some ⟨g, 0, none⟩) 3 c := by
                rcases HJ.out.c.2 with ⟨_, h⟩ | ⟨g, cap, cur, h, _⟩
                · omega
                · exact ⟨g, cap, h⟩
              obtain ⟨gd, dcap, rfl⟩ : ∃ g c, dv = .slice (some ⟨g, 0, none⟩) 3 c := by
                rcases HJ.out.d.2 with ⟨_, h⟩ | ⟨g, cap, cur, h, _⟩
                · omega
                · exact ⟨g, cap, h⟩
              obtain ⟨x1, x2, x3⟩ := HSUM.out
              obtain ⟨s1, n1, d1⟩ := HBD.out la (by simp)
              obtain ⟨s2, n2, d2⟩ := HBD.out lb (by simp)
              have cells : ∀ (g i : Nat) (v : Value) {e : TypeId} {n c : Nat} {xs : List Value}, wk.ownsRow w6.heap.size e 1 (.slice (some ⟨g, 0, none⟩) n c) n xs → xs[i]? = some v → wk.cell? ⟨g, i, none⟩ = some v := fun g i v e n c xs h hx => by
                have := h.cells (g := g) rfl i v hx
                rwa [add_plainT, Nat.zero_add] at this
              have t0 := cells gt 0 (sV (chrL la)) HJ.out.t rfl
              have t1 := cells gt 1 (sV (chrL lb)) HJ.out.t rfl
              have t2 := cells gt 2 (sV (chrL C)) HJ.out.t rfl
              have c0 := cells gc 0 (intV (cntL K la : Nat)) HJ.out.c rfl
              have c1 := cells gc 1 (intV (cntL K lb : Nat)) HJ.out.c rfl
              have c2 := cells gc 2 (intV (cntL K C : Nat)) HJ.out.c rfl
              have f0 := cells gd 0 (intV (deps la : Nat)) HJ.out.d rfl
              have f1 := cells gd 1 (intV (deps lb : Nat)) HJ.out.d rfl
              have f2 := cells gd 2 (intV (deps C : Nat)) HJ.out.d rfl
              rw [x1] at t2
              rw [x2] at c2
              rw [x3] at f2
              obtain ⟨sa, hsa⟩ : ∃ s, chrL la = s := ⟨_, rfl⟩
              obtain ⟨sb, hsb⟩ : ∃ s, chrL lb = s := ⟨_, rfl⟩
              obtain ⟨na, hna⟩ : ∃ s, cntL K la = s := ⟨_, rfl⟩
              obtain ⟨nb, hnb⟩ : ∃ s, cntL K lb = s := ⟨_, rfl⟩
              obtain ⟨da, hda⟩ : ∃ s, deps la = s := ⟨_, rfl⟩
              obtain ⟨db, hdb⟩ : ∃ s, deps lb = s := ⟨_, rfl⟩
              rw [hsa] at t0 t2 s1
              rw [hsb] at t1 t2 s2
              rw [hna] at c0 c2 n1
              rw [hnb] at c1 c2 n2
              rw [hda] at f0 f2 d1
              rw [hdb] at f1 f2 d2
              obtain ⟨sc, hsc⟩ : ∃ s, sa ++ sb = s := ⟨_, rfl⟩
              obtain ⟨nc, hnc⟩ : ∃ s, na + nb = s := ⟨_, rfl⟩
              obtain ⟨dc, hdc⟩ : ∃ s, max da db = s := ⟨_, rfl⟩
              rw [hsc] at t2
              rw [hnc] at c2
              rw [hdc] at f2
              have y1 : baL sa ++ baL sb = baL sc := by rw [← hsc]; exact baL_append _ _
              have z1 : (baL sa).size ≤ 65536 := by rw [baL_size]; exact s1
              have z2 : (baL sb).size ≤ 65536 := by rw [baL_size]; exact s2
              have y2 : IntKind.i64.wrap ((na : Int) + (nb : Int)) = (nc : Int) := by rw [show (na : Int) + (nb : Int) = (nc : Int) by omega]; exact IntWalk.i64_in _ (by omega)
              have y3 : max (da : Int) (db : Int) = (dc : Int) := max2i _ _ _ hdc
              have HCE := Lib.hid (show wk.drew.cell? ⟨gt, 0, none⟩ = some (sV sa) ∧ wk.drew.cell? ⟨gt, 1, none⟩ = some (sV sb) ∧ wk.drew.cell? ⟨gt, 2, none⟩ = some (sV sc) ∧ wk.drew.cell? ⟨gc, 0, none⟩ = some (intV na) ∧ wk.drew.cell? ⟨gc, 1, none⟩ = some (intV nb) ∧ wk.drew.cell? ⟨gc, 2, none⟩ = some (intV nc) ∧ wk.drew.cell? ⟨gd, 0, none⟩ = some (intV da) ∧ wk.drew.cell? ⟨gd, 1, none⟩ = some (intV db) ∧ wk.drew.cell? ⟨gd, 2, none⟩ = some (intV dc) from ⟨t0, t1, t2, c0, c1, c2, f0, f1, f2⟩)
              have BK := Lib.hid (show Below w.heap.size w wk.drew from (B6.out.trans (HJ.out.be.mono hB6)).drew)
              haveI ttk : T wk.drew := T.below BK.out
              clear t0 t1 t2 c0 c1 c2 f0 f1 f2 cells x1 x2 x3 hsa hsb hna hnb hda hdb hsc hnc hdc s1 s2 HJ
              go_wp2_with fail
              refine wp_region_noPanic ?_
              refine wp_region_any (by kernel_rfl) (wpAny_of_k (S := fun _ => True) (S' := fun W' => W'.cell? ⟨gt, 0, none⟩ = some (sV sa) ∧ W'.cell? ⟨gt, 1, none⟩ = some (sV sb) ∧ W'.cell? ⟨gt, 2, none⟩ = some (sV sc) ∧ W'.cell? ⟨gc, 0, none⟩ = some (intV na) ∧ W'.cell? ⟨gc, 1, none⟩ = some (intV nb) ∧ W'.cell? ⟨gc, 2, none⟩ = some (intV nc) ∧ W'.cell? ⟨gd, 0, none⟩ = some (intV da) ∧ W'.cell? ⟨gd, 1, none⟩ = some (intV db) ∧ W'.cell? ⟨gd, 2, none⟩ = some (intV dc)) (k := 99) _ _ _ _ ?_)
              change wpAnyK _ _ _ _ _ _ _ 41 _ _ wk.drew
              refine wpAnyK_takeD (i := 0) (v := .slice (some ⟨gt, 0, none⟩) 3 tcap) (some 88) rfl rfl (by kernel_rfl) (by kernel_rfl) (by kernel_rfl) (by decide) (fun _ _ _ h => h) (Or.inl ⟨by rfl, fun w' hw' => ?_⟩) (fun _ => trivial) (HCE.out) ?_
              · go_simp
              (try simp only [Act.put, List.setIfInBounds_toArray, List.set_cons_zero, List.set_cons_succ])
              refine wpAnyK_takeD (i := 1) (v := .pointer (some ⟨gt, 2, none⟩)) (some 89) rfl rfl (by kernel_rfl) (by kernel_rfl) (by kernel_rfl) (by decide) (fun _ _ _ h => h) (Or.inl ⟨by rfl, fun w' hw' => ?_⟩) (fun _ => trivial) (HCE.out) ?_
              · go_simp
              (try simp only [Act.put, List.setIfInBounds_toArray, List.set_cons_zero, List.set_cons_succ])
              refine wpAnyK_takeD (i := 2) (v := sV sc) (some 90) rfl rfl (by kernel_rfl) (by kernel_rfl) (by kernel_rfl) (by decide) (fun _ _ _ h => h) (Or.inl ⟨by rfl, fun w' hw' => ?_⟩) (fun _ => trivial) (HCE.out) ?_
              · obtain ⟨g0, g1, g2, g3, g4, g5, g6, g7, g8⟩ := hw'; go_simp
              (try simp only [Act.put, List.setIfInBounds_toArray, List.set_cons_zero, List.set_cons_succ])
              refine wpAnyK_takeD (i := 3) (v := .slice (some ⟨gt, 0, none⟩) 3 tcap) (some 91) rfl rfl (by kernel_rfl) (by kernel_rfl) (by kernel_rfl) (by decide) (fun _ _ _ h => h) (Or.inl ⟨by rfl, fun w' hw' => ?_⟩) (fun _ => trivial) (HCE.out) ?_
              · go_simp
              (try simp only [Act.put, List.setIfInBounds_toArray, List.set_cons_zero, List.set_cons_succ])
              refine wpAnyK_takeD (i := 4) (v := .pointer (some ⟨gt, 0, none⟩)) (some 92) rfl rfl (by kernel_rfl) (by kernel_rfl) (by kernel_rfl) (by decide) (fun _ _ _ h => h) (Or.inl ⟨by rfl, fun w' hw' => ?_⟩) (fun _ => trivial) (HCE.out) ?_
              · go_simp
              (try simp only [Act.put, List.setIfInBounds_toArray, List.set_cons_zero, List.set_cons_succ])
              refine wpAnyK_takeD (i := 5) (v := sV sa) (some 93) rfl rfl (by kernel_rfl) (by kernel_rfl) (by kernel_rfl) (by decide) (fun _ _ _ h => h) (Or.inl ⟨by rfl, fun w' hw' => ?_⟩) (fun _ => trivial) (HCE.out) ?_
              · obtain ⟨g0, g1, g2, g3, g4, g5, g6, g7, g8⟩ := hw'; go_simp
              (try simp only [Act.put, List.setIfInBounds_toArray, List.set_cons_zero, List.set_cons_succ])
              refine wpAnyK_takeD (i := 6) (v := .slice (some ⟨gt, 0, none⟩) 3 tcap) (some 94) rfl rfl (by kernel_rfl) (by kernel_rfl) (by kernel_rfl) (by decide) (fun _ _ _ h => h) (Or.inl ⟨by rfl, fun w' hw' => ?_⟩) (fun _ => trivial) (HCE.out) ?_
              · go_simp
              (try simp only [Act.put, List.setIfInBounds_toArray, List.set_cons_zero, List.set_cons_succ])
              refine wpAnyK_takeD (i := 7) (v := .pointer (some ⟨gt, 1, none⟩)) (some 95) rfl rfl (by kernel_rfl) (by kernel_rfl) (by kernel_rfl) (by decide) (fun _ _ _ h => h) (Or.inl ⟨by rfl, fun w' hw' => ?_⟩) (fun _ => trivial) (HCE.out) ?_
              · go_simp
              (try simp only [Act.put, List.setIfInBounds_toArray, List.set_cons_zero, List.set_cons_succ])
              refine wpAnyK_takeD (i := 8) (v := sV sb) (some 96) rfl rfl (by kernel_rfl) (by kernel_rfl) (by kernel_rfl) (by decide) (fun _ _ _ h => h) (Or.inl ⟨by rfl, fun w' hw' => ?_⟩) (fun _ => trivial) (HCE.out) ?_
              · obtain ⟨g0, g1, g2, g3, g4, g5, g6, g7, g8⟩ := hw'; go_simp
              (try simp only [Act.put, List.setIfInBounds_toArray, List.set_cons_zero, List.set_cons_succ])
              refine wpAnyK_takeD (i := 9) (v := sV sc) (some 97) rfl rfl (by kernel_rfl) (by kernel_rfl) (by kernel_rfl) (by decide) (fun _ _ _ h => h) (Or.inl ⟨by rfl, fun w' hw' => ?_⟩) (fun _ => trivial) (HCE.out) ?_
              · go_simp; omega
              (try simp only [Act.put, List.setIfInBounds_toArray, List.set_cons_zero, List.set_cons_succ])
              refine wpAnyK_takeD (i := 10) (v := .bool true) (some 98) rfl rfl (by kernel_rfl) (by kernel_rfl) (by kernel_rfl) (by decide) (fun _ _ _ h => h) (Or.inl ⟨by rfl, fun w' hw' => ?_⟩) (fun _ => trivial) (HCE.out) ?_
              · go_simp
              (try simp only [Act.put, List.setIfInBounds_toArray, List.set_cons_zero, List.set_cons_succ])
              refine wpAnyK_takeD (i := 11) (v := .bool true) (some 99) rfl rfl (by kernel_rfl) (by kernel_rfl) (by kernel_rfl) (by decide) (fun _ _ _ h => h) (Or.inl ⟨by rfl, fun w' hw' => ?_⟩) (fun _ => trivial) (HCE.out) ?_
              · go_simp
              (try simp only [Act.put, List.setIfInBounds_toArray, List.set_cons_zero, List.set_cons_succ])
              refine wpAnyK_takeD (i := 12) (v := .slice (some ⟨gc, 0, none⟩) 3 ccap) (some 100) rfl rfl (by kernel_rfl) (by kernel_rfl) (by kernel_rfl) (by decide) (fun _ _ _ h => h) (Or.inl ⟨by rfl, fun w' hw' => ?_⟩) (fun _ => trivial) (HCE.out) ?_
              · go_simp
              (try simp only [Act.put, List.setIfInBounds_toArray, List.set_cons_zero, List.set_cons_succ])
              refine wpAnyK_takeD (i := 13) (v := .pointer (some ⟨gc, 2, none⟩)) (some 101) rfl rfl (by kernel_rfl) (by kernel_rfl) (by kernel_rfl) (by decide) (fun _ _ _ h => h) (Or.inl ⟨by rfl, fun w' hw' => ?_⟩) (fun _ => trivial) (HCE.out) ?_
              · go_simp
              (try simp only [Act.put, List.setIfInBounds_toArray, List.set_cons_zero, List.set_cons_succ])
              refine wpAnyK_takeD (i := 14) (v := intV nc) (some 102) rfl rfl (by kernel_rfl) (by kernel_rfl) (by kernel_rfl) (by decide) (fun _ _ _ h => h) (Or.inl ⟨by rfl, fun w' hw' => ?_⟩) (fun _ => trivial) (HCE.out) ?_
              · obtain ⟨g0, g1, g2, g3, g4, g5, g6, g7, g8⟩ := hw'; go_simp
              (try simp only [Act.put, List.setIfInBounds_toArray, List.set_cons_zero, List.set_cons_succ])
              refine wpAnyK_takeD (i := 15) (v := .slice (some ⟨gc, 0, none⟩) 3 ccap) (some 103) rfl rfl (by kernel_rfl) (by kernel_rfl) (by kernel_rfl) (by decide) (fun _ _ _ h => h) (Or.inl ⟨by rfl, fun w' hw' => ?_⟩) (fun _ => trivial) (HCE.out) ?_
              · go_simp
              (try simp only [Act.put, List.setIfInBounds_toArray, List.set_cons_zero, List.set_cons_succ])
              refine wpAnyK_takeD (i := 16) (v := .pointer (some ⟨gc, 0, none⟩)) (some 104) rfl rfl (by kernel_rfl) (by kernel_rfl) (by kernel_rfl) (by decide) (fun _ _ _ h => h) (Or.inl ⟨by rfl, fun w' hw' => ?_⟩) (fun _ => trivial) (HCE.out) ?_
              · go_simp
              (try simp only [Act.put, List.setIfInBounds_toArray, List.set_cons_zero, List.set_cons_succ])
              refine wpAnyK_takeD (i := 17) (v := intV na) (some 105) rfl rfl (by kernel_rfl) (by kernel_rfl) (by kernel_rfl) (by decide) (fun _ _ _ h => h) (Or.inl ⟨by rfl, fun w' hw' => ?_⟩) (fun _ => trivial) (HCE.out) ?_
              · obtain ⟨g0, g1, g2, g3, g4, g5, g6, g7, g8⟩ := hw'; go_simp
              (try simp only [Act.put, List.setIfInBounds_toArray, List.set_cons_zero, List.set_cons_succ])
              refine wpAnyK_takeD (i := 18) (v := .slice (some ⟨gc, 0, none⟩) 3 ccap) (some 106) rfl rfl (by kernel_rfl) (by kernel_rfl) (by kernel_rfl) (by decide) (fun _ _ _ h => h) (Or.inl ⟨by rfl, fun w' hw' => ?_⟩) (fun _ => trivial) (HCE.out) ?_
              · go_simp
              (try simp only [Act.put, List.setIfInBounds_toArray, List.set_cons_zero, List.set_cons_succ])
              refine wpAnyK_takeD (i := 19) (v := .pointer (some ⟨gc, 1, none⟩)) (some 107) rfl rfl (by kernel_rfl) (by kernel_rfl) (by kernel_rfl) (by decide) (fun _ _ _ h => h) (Or.inl ⟨by rfl, fun w' hw' => ?_⟩) (fun _ => trivial) (HCE.out) ?_
              · go_simp
              (try simp only [Act.put, List.setIfInBounds_toArray, List.set_cons_zero, List.set_cons_succ])
              refine wpAnyK_takeD (i := 20) (v := intV nb) (some 108) rfl rfl (by kernel_rfl) (by kernel_rfl) (by kernel_rfl) (by decide) (fun _ _ _ h => h) (Or.inl ⟨by rfl, fun w' hw' => ?_⟩) (fun _ => trivial) (HCE.out) ?_
              · obtain ⟨g0, g1, g2, g3, g4, g5, g6, g7, g8⟩ := hw'; go_simp
              (try simp only [Act.put, List.setIfInBounds_toArray, List.set_cons_zero, List.set_cons_succ])
              refine wpAnyK_takeD (i := 21) (v := intV nc) (some 109) rfl rfl (by kernel_rfl) (by kernel_rfl) (by kernel_rfl) (by decide) (fun _ _ _ h => h) (Or.inl ⟨by rfl, fun w' hw' => ?_⟩) (fun _ => trivial) (HCE.out) ?_
              · go_simp
              (try simp only [Act.put, List.setIfInBounds_toArray, List.set_cons_zero, List.set_cons_succ])
              refine wpAnyK_takeD (i := 22) (v := .bool true) (some 110) rfl rfl (by kernel_rfl) (by kernel_rfl) (by kernel_rfl) (by decide) (fun _ _ _ h => h) (Or.inl ⟨by rfl, fun w' hw' => ?_⟩) (fun _ => trivial) (HCE.out) ?_
              · go_simp
              (try simp only [Act.put, List.setIfInBounds_toArray, List.set_cons_zero, List.set_cons_succ])
              refine wpAnyK_takeD (i := 23) (v := .bool true) (some 111) rfl rfl (by kernel_rfl) (by kernel_rfl) (by kernel_rfl) (by decide) (fun _ _ _ h => h) (Or.inl ⟨by rfl, fun w' hw' => ?_⟩) (fun _ => trivial) (HCE.out) ?_
              · go_simp
              (try simp only [Act.put, List.setIfInBounds_toArray, List.set_cons_zero, List.set_cons_succ])
              refine wpAnyK_takeD (i := 24) (v := .bool true) (some 112) rfl rfl (by kernel_rfl) (by kernel_rfl) (by kernel_rfl) (by decide) (fun _ _ _ h => h) (Or.inl ⟨by rfl, fun w' hw' => ?_⟩) (fun _ => trivial) (HCE.out) ?_
              · go_simp
              (try simp only [Act.put, List.setIfInBounds_toArray, List.set_cons_zero, List.set_cons_succ])
              refine wpAnyK_takeD (i := 25) (v := .slice (some ⟨gd, 0, none⟩) 3 dcap) (some 113) rfl rfl (by kernel_rfl) (by kernel_rfl) (by kernel_rfl) (by decide) (fun _ _ _ h => h) (Or.inl ⟨by rfl, fun w' hw' => ?_⟩) (fun _ => trivial) (HCE.out) ?_
              · go_simp
              (try simp only [Act.put, List.setIfInBounds_toArray, List.set_cons_zero, List.set_cons_succ])
              refine wpAnyK_takeD (i := 26) (v := .pointer (some ⟨gd, 2, none⟩)) (some 114) rfl rfl (by kernel_rfl) (by kernel_rfl) (by kernel_rfl) (by decide) (fun _ _ _ h => h) (Or.inl ⟨by rfl, fun w' hw' => ?_⟩) (fun _ => trivial) (HCE.out) ?_
              · go_simp
              (try simp only [Act.put, List.setIfInBounds_toArray, List.set_cons_zero, List.set_cons_succ])
              refine wpAnyK_takeD (i := 27) (v := intV dc) (some 115) rfl rfl (by kernel_rfl) (by kernel_rfl) (by kernel_rfl) (by decide) (fun _ _ _ h => h) (Or.inl ⟨by rfl, fun w' hw' => ?_⟩) (fun _ => trivial) (HCE.out) ?_
              · obtain ⟨g0, g1, g2, g3, g4, g5, g6, g7, g8⟩ := hw'; go_simp
              (try simp only [Act.put, List.setIfInBounds_toArray, List.set_cons_zero, List.set_cons_succ])
              refine wpAnyK_takeD (i := 28) (v := .slice (some ⟨gd, 0, none⟩) 3 dcap) (some 116) rfl rfl (by kernel_rfl) (by kernel_rfl) (by kernel_rfl) (by decide) (fun _ _ _ h => h) (Or.inl ⟨by rfl, fun w' hw' => ?_⟩) (fun _ => trivial) (HCE.out) ?_
              · go_simp
              (try simp only [Act.put, List.setIfInBounds_toArray, List.set_cons_zero, List.set_cons_succ])
              refine wpAnyK_takeD (i := 29) (v := .pointer (some ⟨gd, 0, none⟩)) (some 117) rfl rfl (by kernel_rfl) (by kernel_rfl) (by kernel_rfl) (by decide) (fun _ _ _ h => h) (Or.inl ⟨by rfl, fun w' hw' => ?_⟩) (fun _ => trivial) (HCE.out) ?_
              · go_simp
              (try simp only [Act.put, List.setIfInBounds_toArray, List.set_cons_zero, List.set_cons_succ])
              refine wpAnyK_takeD (i := 30) (v := intV da) (some 118) rfl rfl (by kernel_rfl) (by kernel_rfl) (by kernel_rfl) (by decide) (fun _ _ _ h => h) (Or.inl ⟨by rfl, fun w' hw' => ?_⟩) (fun _ => trivial) (HCE.out) ?_
              · obtain ⟨g0, g1, g2, g3, g4, g5, g6, g7, g8⟩ := hw'; go_simp
              (try simp only [Act.put, List.setIfInBounds_toArray, List.set_cons_zero, List.set_cons_succ])
              refine wpAnyK_takeD (i := 31) (v := .slice (some ⟨gd, 0, none⟩) 3 dcap) (some 119) rfl rfl (by kernel_rfl) (by kernel_rfl) (by kernel_rfl) (by decide) (fun _ _ _ h => h) (Or.inl ⟨by rfl, fun w' hw' => ?_⟩) (fun _ => trivial) (HCE.out) ?_
              · go_simp
              (try simp only [Act.put, List.setIfInBounds_toArray, List.set_cons_zero, List.set_cons_succ])
              refine wpAnyK_takeD (i := 32) (v := .pointer (some ⟨gd, 1, none⟩)) (some 120) rfl rfl (by kernel_rfl) (by kernel_rfl) (by kernel_rfl) (by decide) (fun _ _ _ h => h) (Or.inl ⟨by rfl, fun w' hw' => ?_⟩) (fun _ => trivial) (HCE.out) ?_
              · go_simp
              (try simp only [Act.put, List.setIfInBounds_toArray, List.set_cons_zero, List.set_cons_succ])
              refine wpAnyK_takeD (i := 33) (v := intV db) (some 121) rfl rfl (by kernel_rfl) (by kernel_rfl) (by kernel_rfl) (by decide) (fun _ _ _ h => h) (Or.inl ⟨by rfl, fun w' hw' => ?_⟩) (fun _ => trivial) (HCE.out) ?_
              · obtain ⟨g0, g1, g2, g3, g4, g5, g6, g7, g8⟩ := hw'; go_simp
              (try simp only [Act.put, List.setIfInBounds_toArray, List.set_cons_zero, List.set_cons_succ])
              refine wpAnyK_takeD (i := 34) (v := intV dc) (some 122) rfl rfl (by kernel_rfl) (by kernel_rfl) (by kernel_rfl) (by decide) (fun _ _ _ h => h) (Or.inl ⟨by rfl, fun w' hw' => ?_⟩) (fun _ => trivial) (HCE.out) ?_
              · go_simp
              (try simp only [Act.put, List.setIfInBounds_toArray, List.set_cons_zero, List.set_cons_succ])
              refine wpAnyK_takeD (i := 35) (v := .bool true) (some 123) rfl rfl (by kernel_rfl) (by kernel_rfl) (by kernel_rfl) (by decide) (fun _ _ _ h => h) (Or.inl ⟨by rfl, fun w' hw' => ?_⟩) (fun _ => trivial) (HCE.out) ?_
              · go_simp
              (try simp only [Act.put, List.setIfInBounds_toArray, List.set_cons_zero, List.set_cons_succ])
              refine wpAnyK_takeD (i := 36) (v := .bool true) (some 124) rfl rfl (by kernel_rfl) (by kernel_rfl) (by kernel_rfl) (by decide) (fun _ _ _ h => h) (Or.inl ⟨by rfl, fun w' hw' => ?_⟩) (fun _ => trivial) (HCE.out) ?_
              · go_simp
              (try simp only [Act.put, List.setIfInBounds_toArray, List.set_cons_zero, List.set_cons_succ])
              refine wpAnyK_takeD (i := 37) (v := .bool true) (some 125) rfl rfl (by kernel_rfl) (by kernel_rfl) (by kernel_rfl) (by decide) (fun _ _ _ h => h) (Or.inl ⟨by rfl, fun w' hw' => ?_⟩) (fun _ => trivial) (HCE.out) ?_
              · go_simp
              (try simp only [Act.put, List.setIfInBounds_toArray, List.set_cons_zero, List.set_cons_succ])
              refine wpAnyK_all (rs := [38]) (by kernel_rfl) (by simp) ?_
              intro i' hi'
              obtain rfl := List.mem_singleton.1 hi'
              clear hi'
              refine wpOp_step rfl fun K hK => ?_
              go_simp
              go_at_call 11
              refine (awake_any _).mono ?_
              rintro e' w10 ⟨rfl, h10⟩
              have B10 := Lib.hid (below_then BK.out h10)
              have HC10 := Lib.hid (show w10.cell? ⟨gt, 0, none⟩ = some (sV sa) ∧ w10.cell? ⟨gt, 1, none⟩ = some (sV sb) ∧ w10.cell? ⟨gt, 2, none⟩ = some (sV sc) ∧ w10.cell? ⟨gc, 0, none⟩ = some (intV na) ∧ w10.cell? ⟨gc, 1, none⟩ = some (intV nb) ∧ w10.cell? ⟨gc, 2, none⟩ = some (intV nc) ∧ w10.cell? ⟨gd, 0, none⟩ = some (intV da) ∧ w10.cell? ⟨gd, 1, none⟩ = some (intV db) ∧ w10.cell? ⟨gd, 2, none⟩ = some (intV dc) by
                obtain ⟨g0, g1, g2, g3, g4, g5, g6, g7, g8⟩ := HCE.out
                exact ⟨(h10.cell (cellT_lt g0)).trans g0, (h10.cell (cellT_lt g1)).trans g1, (h10.cell (cellT_lt g2)).trans g2, (h10.cell (cellT_lt g3)).trans g3, (h10.cell (cellT_lt g4)).trans g4, (h10.cell (cellT_lt g5)).trans g5, (h10.cell (cellT_lt g6)).trans g6, (h10.cell (cellT_lt g7)).trans g7, (h10.cell (cellT_lt g8)).trans g8⟩)
              clear h10
              refine hK _ _ ⟨fun _ => trivial, HC10.out, ?_⟩
              clear hK K
              (try simp only [Act.put, List.setIfInBounds_toArray, List.set_cons_zero, List.set_cons_succ])
              refine wpAnyK_takeD (i := 39) (v := .bool true) (some 127) rfl rfl (by kernel_rfl) (by kernel_rfl) (by kernel_rfl) (by decide) (fun _ _ _ h => h) (Or.inl ⟨by rfl, fun w' hw' => ?_⟩) (fun _ => trivial) (HC10.out) ?_
              · go_simp
              (try simp only [Act.put, List.setIfInBounds_toArray, List.set_cons_zero, List.set_cons_succ])
              refine wpAnyK_takeD (i := 40) (v := .bool true) (some 6) rfl rfl (by kernel_rfl) (by kernel_rfl) (by kernel_rfl) (by decide) (fun _ _ _ h => h) (Or.inl ⟨by rfl, fun w' hw' => ?_⟩) (fun _ => trivial) (HC10.out) ?_
              · go_simp
              (try simp only [Act.put, List.setIfInBounds_toArray, List.set_cons_zero, List.set_cons_succ])
              refine wpAnyK_done (by kernel_rfl) ?_ _
              refine NoPanic.normal ?_
              go_wp2
              go_ret
              exact ⟨rfl, B10.out⟩
theorem joins_w (w : World) [T w] (va : Value) (la : List Nd) (vb : Value) (lb : List Nd) (kd : Int) (hva : NdIn w va la) (hla : la.length ≤ maxLen) (hvb : NdIn w vb lb) (hlb : lb.length ≤ maxLen) (hk : (Lit.int .u8 kd).wf = true) :
    Calls Tryz.prog 7 #[va, vb, .int .u8 kd] w fun e w' => e = .returned (.bool true) ∧ Below w.heap.size w w' :=
  joins_law la lb kd va vb _ _ w hva hvb hla hlb (wf_u8 hk)
end Go.Proofs.YtmfcepfagbkceaaGreatDoor
