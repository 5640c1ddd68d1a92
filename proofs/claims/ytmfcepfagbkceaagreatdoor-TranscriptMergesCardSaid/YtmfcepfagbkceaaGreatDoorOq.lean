/- Stage 10 (transcript): TpSame TpKind TpNodeOf TpNode TpOwn TpOpen TpTop TpTreeA, put together by merge10.py. -/
import Derived.Test.YtmfcepfagbkceaaGreatDoorOp
import Derived.Test.YtmfcepfagbkceaaGreatDoorOb
import Derived.Laws.OwnMore
namespace Go.Proofs.YtmfcepfagbkceaaGreatDoor
set_option linter.unusedSimpArgs false
set_option linter.unusedVariables false
set_option maxRecDepth 100000
open Go.RowKit Go.Shelf Go.Deep
set_option maxHeartbeats 2000000 in
theorem isSame_at (xk : Int) (xt : Bs) (xn : Int) (sa : Option Addr) (xm sc : Nat) (yk : Int) (yt : Bs) (yn : Int) (sb : Option Addr) (ym sd : Nat) (b1 b2 b3 s : Bool) (h1 : (xk == yk) = b1) (h2 : (xt == yt) = b2) (h3 : (xn == yn) = b3)
    (r : Bool) (hr : (b1 && (b2 && (b3 && s))) = r) (w : World)
    (hs : ∀ W, Below w.heap.size w W → Calls Tryz.prog 28 #[.slice sa xm sc, .slice sb ym sd] W fun e w' => e = .returned (.bool s) ∧ Below W.heap.size W w') :
    Calls Tryz.prog 63 #[.agg #[intV xk, sV xt, intV xn, .slice sa xm sc], .agg #[intV yk, sV yt, intV yn, .slice sb ym sd]] w fun e w' => e = .returned (.bool r) ∧ Below w.heap.size w w' := by
  have HR := Lib.hid hr
  have t1 := baL_tl xt
  have t2 := baL_tl yt
  obtain ⟨w2, hw2⟩ : ∃ X, ((w.alloc (.cells #[intV xk, sV xt, intV xn, .slice sa xm sc] nT (0, 0))).alloc (.cells #[intV yk, sV yt, intV yn, .slice sb ym sd] nT (0, 0))) = X := ⟨_, rfl⟩
  obtain ⟨s2, k0, k1, kb⟩ := heap_allocT2 w _ _ hw2
  have HS := Lib.hid (hs w2 kb)
  have HB := Lib.hid kb
  obtain ⟨p0, p1, p2, p3⟩ := box4T k0
  obtain ⟨q0, q1, q2, q3⟩ := box4T k1
  have HW := Lib.hid hw2
  rw [← hw2] at p0 p1 p2 p3 q0 q1 q2 q3
  clear hr hs k0 k1 kb s2 hw2
  go_enter Tryz.func63, Tryz.ntmps63
  cases b1
  · go_wp2
    go_ret
    exact ⟨by rw [← HR.out]; rfl, by rw [HW.out]; exact HB.out⟩
  · cases b2
    · go_wp2
      go_ret
      exact ⟨by rw [← HR.out]; rfl, by rw [HW.out]; exact HB.out⟩
    · cases b3
      · go_wp2
        go_ret
        exact ⟨by rw [← HR.out]; rfl, by rw [HW.out]; exact HB.out⟩
      · go_wp2_with fail
        rw [HW.out]
        refine HS.out.mono ?_
        rintro e w3 ⟨rfl, h3⟩
        have H3 := Lib.hid (below_then HB.out h3)
        clear h3 p0 p1 p2 p3 q0 q1 q2 q3
        cases s
        all_goals
          go_wp2
          go_ret
          exact ⟨by rw [← HR.out]; rfl, H3.out⟩
set_option maxHeartbeats 4000000 in
theorem equalT_at (N : Nat) (IH : ∀ l : List Nd, tots l < N → tots l ≤ 100000 → ∀ (m : List Nd) (r : Bool), (r = true ↔ l = m) → ∀ (v u : Value) (P Q : Nat → Prop) (w : World), VsAt w P v l → VsAt w Q u m →
      Calls Tryz.prog 28 #[v, u] w fun e w' => e = .returned (.bool r) ∧ Below w.heap.size w w')
    (l : List Nd) (hN : tots l ≤ N) (hM : tots l ≤ 100000) (m : List Nd) (r : Bool) (hr : r = true ↔ l = m) (v u : Value) (P Q : Nat → Prop) (w : World) (hv : VsAt w P v l) (hu : VsAt w Q u m) :
    Calls Tryz.prog 62 #[v, u, .func (.func 63) #[] #[]] w fun e w' => e = .returned (.bool r) ∧ Below w.heap.size w w' := by
  have HV := Lib.hid hv
  have HU := Lib.hid hu
  obtain ⟨a, c, rfl, hvi⟩ := id hv
  obtain ⟨a2, c2, rfl, hui⟩ := id hu
  clear hvi hui hv hu
  have HI := Lib.hid IH
  have HR := Lib.hid hr
  have hll := len_tots l
  clear IH hr
  by_cases hlen : l.length = m.length
  · have q0 : ((l.length : Int) != (m.length : Int)) = false := by rw [hlen]; simp
    have q0' : ((l.length : Int) == (m.length : Int)) = true := by rw [hlen]; simp
    have HLEN := Lib.hid hlen
    clear hlen
    go_enter Tryz.func62, Tryz.ntmps62
    go_wp2
    go_loopw [17] (fun iv wr => ∃ j : Nat, j ≤ l.length ∧ iv = .int .i64 j ∧ Hid (l.take j = m.take j) ∧ Below w.heap.size w wr) (fun iv _ => l.length - (intOf iv).toNat)
    case atStart => exact ⟨0, Nat.zero_le _, rfl, Lib.hid (by simp), Below.refl _ _⟩
    case round =>
      obtain ⟨j, hj, rfl, HT, hB⟩ := hrel
      obtain ⟨wk, rfl⟩ : ∃ x, x = wr := ⟨_, rfl⟩
      have HB := Lib.hid hB
      by_cases hlt : j < l.length
      · have hlt2 : j < m.length := by have := HLEN.out; omega
        obtain ⟨b, off, sa, sc, rfl, _, hbb, c1, c2, c3, c4, hx⟩ := HV.out.elem' hlt
        obtain ⟨b2, off2, sa2, sc2, rfl, _, hbb2, e1, e2, e3, e4, hy⟩ := HU.out.elem' hlt2
        have d1 := (hB.cell (p := ⟨b, off + j * 4, none⟩) hbb).trans c1
        have d2 := (hB.cell (p := ⟨b, off + j * 4 + 1, none⟩) hbb).trans c2
        have d3 := (hB.cell (p := ⟨b, off + j * 4 + 2, none⟩) hbb).trans c3
        have d4 := (hB.cell (p := ⟨b, off + j * 4 + 3, none⟩) hbb).trans c4
        have f1 := (hB.cell (p := ⟨b2, off2 + j * 4, none⟩) hbb2).trans e1
        have f2 := (hB.cell (p := ⟨b2, off2 + j * 4 + 1, none⟩) hbb2).trans e2
        have f3 := (hB.cell (p := ⟨b2, off2 + j * 4 + 2, none⟩) hbb2).trans e3
        have f4 := (hB.cell (p := ⟨b2, off2 + j * 4 + 3, none⟩) hbb2).trans e4
        have hvx := parts_at hx hB
        have hvy := parts_at hy hB
        have hmt := (tots_mem hlt).1
        have hxt := tot_ps l[j]
        have hno : l[j] ≠ m[j] → r = false := fun h => by
          cases hr : r
          · rfl
          · have e := HR.out.1 hr
            exact absurd (by simp only [e]) h
        have i0 : (0 : Int) ≤ (j : Int) := by omega
        have i1 : (j : Int) < (l.length : Int) := by omega
        have i2 : (j : Int) < (m.length : Int) := by omega
        have hstep : l[j] = m[j] → l.take (j + 1) = m.take (j + 1) := fun h => by
          rw [List.take_succ_eq_append_getElem hlt, List.take_succ_eq_append_getElem hlt2, HT.out, h]
        have hla := below_alloc wk (.cells #[intV l[j].kd, sV l[j].tx, intV l[j].nm, .slice sa l[j].ps.length sc] nT)
        have hlb := below_then hla (below_alloc (wk.alloc (.cells #[intV l[j].kd, sV l[j].tx, intV l[j].nm, .slice sa l[j].ps.length sc] nT)) (.cells #[intV m[j].kd, sV m[j].tx, intV m[j].nm, .slice sa2 m[j].ps.length sc2] nT))
        have hcalls := fun W (hW : Below wk.heap.size wk W) (s : Bool) (hs : s = true ↔ l[j].ps = m[j].ps) => HI.out l[j].ps (by omega) (by omega) m[j].ps s hs _ _ P Q W (hvx.below hW) (hvy.below hW)
        obtain ⟨x, hxj⟩ : ∃ x, l[j] = x := ⟨_, rfl⟩
        obtain ⟨y, hyj⟩ : ∃ y, m[j] = y := ⟨_, rfl⟩
        rw [hxj] at d1 d2 d3 d4 hno hstep hcalls hla hlb
        rw [hyj] at f1 f2 f3 f4 hno hstep hcalls hlb
        have hb2k := Nat.lt_of_lt_of_le hbb2 hB.size
        replace f1 := (hla.cell (p := ⟨b2, off2 + j * 4, none⟩) hb2k).trans f1
        replace f2 := (hla.cell (p := ⟨b2, off2 + j * 4 + 1, none⟩) hb2k).trans f2
        replace f3 := (hla.cell (p := ⟨b2, off2 + j * 4 + 2, none⟩) hb2k).trans f3
        replace f4 := (hla.cell (p := ⟨b2, off2 + j * 4 + 3, none⟩) hb2k).trans f4
        obtain ⟨s, hs⟩ : ∃ s : Bool, (s = true ↔ x.ps = y.ps) := by
          by_cases e : x.ps = y.ps
          · exact ⟨true, by simp [e]⟩
          · exact ⟨false, by simp [e]⟩
        obtain ⟨r1, hr1⟩ : ∃ r1, ((x.kd == y.kd) && ((x.tx == y.tx) && ((x.nm == y.nm) && s))) = r1 := ⟨_, rfl⟩
        have hiff : r1 = true ↔ x = y := by
          rw [← hr1, nd_eq]
          simp [hs]
        obtain ⟨w5, hw5⟩ : ∃ X, ((wk.alloc (.cells #[intV x.kd, sV x.tx, intV x.nm, .slice sa x.ps.length sc] nT)).alloc (.cells #[intV y.kd, sV y.tx, intV y.nm, .slice sa2 y.ps.length sc2] nT)) = X := ⟨_, rfl⟩
        rw [hw5] at hlb
        have HIS := Lib.hid (isSame_at x.kd x.tx x.nm sa x.ps.length sc y.kd y.tx y.nm sa2 y.ps.length sc2 _ _ _ s rfl rfl rfl r1 hr1 w5 (fun W hW => hcalls W (hlb.trans (hW.mono hlb.size)) s hs))
        have HB5 := Lib.hid (below_then HB.out hlb)
        have HW5 := Lib.hid hw5
        obtain ⟨s5, g0, g1, g5⟩ := heap_allocT2 wk _ _ hw5
        obtain ⟨m0, m1, m2, m3⟩ := box4T g0
        obtain ⟨n0, n1, n2, n3⟩ := box4T g1
        rw [← hw5] at m0 m1 m2 m3 n0 n1 n2 n3
        cases r1
        · have HZ := Lib.hid (hno (fun e => by have := hiff.2 e; cases this))
          clear c1 c2 c3 c4 e1 e2 e3 e4 hx hy hvx hvy hmt hxt hno hstep hcalls hla hlb hxj hyj hs hr1 hiff hw5 s5 g0 g1 g5 hB
          go_wp2_with fail
          rw [HW5.out]
          refine HIS.out.mono ?_
          rintro e' w6 ⟨rfl, h6⟩
          have HB6 := Lib.hid (below_then HB5.out h6)
          clear h6 m0 m1 m2 m3 n0 n1 n2 n3
          go_wp2
          go_ret
          exact ⟨by rw [HZ.out] <;> rfl, HB6.out⟩
        · have HS := Lib.hid (hstep (hiff.1 rfl))
          clear c1 c2 c3 c4 e1 e2 e3 e4 hx hy hvx hvy hmt hxt hno hstep hcalls hla hlb hxj hyj hs hr1 hiff hw5 s5 g0 g1 g5 hB
          go_wp2_with fail
          rw [HW5.out]
          refine HIS.out.mono ?_
          rintro e' w6 ⟨rfl, h6⟩
          have HB6 := Lib.hid (below_then HB5.out h6)
          clear h6 m0 m1 m2 m3 n0 n1 n2 n3
          go_wp2
          go_roundw
          case rel => exact ⟨j + 1, by omega, by go_num, HS, HB6.out⟩
          case measure => simp [intOf]; omega
      · have HZ := Lib.hid (show r = true by
          have h1 := HT.out
          rw [List.take_of_length_le (by omega), List.take_of_length_le (by have := HLEN.out; omega)] at h1
          exact HR.out.2 h1)
        clear hB
        go_wp2
        go_ret
        exact ⟨by rw [HZ.out] <;> rfl, HB.out⟩
  · have q0 : ((l.length : Int) != (m.length : Int)) = true := by simp; omega
    have q0' : ((l.length : Int) == (m.length : Int)) = false := by rw [beq_eq_false_iff_ne]; omega
    have HZ := Lib.hid (show r = false by
      cases hr : r
      · rfl
      · exact absurd (congrArg List.length (HR.out.1 hr)) hlen)
    go_enter Tryz.func62, Tryz.ntmps62
    go_wp2
    go_ret
    exact ⟨by rw [HZ.out] <;> rfl, Below.refl _ _⟩
theorem sameT_any : ∀ (N : Nat) (l : List Nd), tots l < N → tots l ≤ 100000 → ∀ (m : List Nd) (r : Bool), (r = true ↔ l = m) → ∀ (v u : Value) (P Q : Nat → Prop) (w : World), VsAt w P v l → VsAt w Q u m →
    Calls Tryz.prog 28 #[v, u] w fun e w' => e = .returned (.bool r) ∧ Below w.heap.size w w' := by
  intro N
  induction N with
  | zero => intro l h; omega
  | succ N ih =>
    intro l hN hM m r hr v u P Q w hv hu
    have HE := Lib.hid (equalT_at N ih l (by omega) hM m r hr v u P Q w hv hu)
    obtain ⟨a, c, rfl, hvi⟩ := hv
    obtain ⟨a2, c2, rfl, hui⟩ := hu
    clear hr ih hvi hui
    go_enter Tryz.func28, Tryz.ntmps28
    go_wp2_with fail
    refine HE.out.mono ?_
    rintro e' w6 ⟨rfl, h6⟩
    have H6 := Lib.hid h6
    clear h6 HE
    go_wp2
    go_ret
    exact ⟨rfl, H6.out⟩
end Go.Proofs.YtmfcepfagbkceaaGreatDoor
namespace Go.Proofs.YtmfcepfagbkceaaGreatDoor
set_option linter.unusedSimpArgs false
set_option linter.unusedVariables false
set_option maxRecDepth 100000
open Go.RowKit Go.Shelf Go.Deep
theorem form_at {W : World} {g : Nat} (h : W.heap[g]? = some (.cells formsA faT (0, 0))) : ∀ j, j < 12 → W.cell? ⟨g, j * 4, none⟩ = some (sV (tgK j)) ∧ W.cell? ⟨g, j * 4 + 1, none⟩ = some (fnK j) ∧ W.cell? ⟨g, j * 4 + 2, none⟩ = some (intV (mxK j)) ∧ W.cell? ⟨g, j * 4 + 3, none⟩ = some (.bool (ptK j))
  | 0, _ | 1, _ | 2, _ | 3, _ | 4, _ | 5, _ | 6, _ | 7, _ | 8, _ | 9, _ | 10, _ | 11, _ => by unfold World.cell?; rw [h]; exact ⟨rfl, rfl, rfl, rfl⟩
  | j + 12, h => absurd h (by omega)
theorem fnK_form (j : Nat) : fnK j = .nilFunc ∨ ∃ F, fnK j = .func (.func F) #[] #[] := by
  unfold fnK
  split <;> first | exact .inl rfl | exact .inr ⟨_, rfl⟩
theorem kOf_at {n : Bs} (hn : isTag n = true) : ∀ j, j < 12 → tgK j = n → (j : Int) = kOf n := by
  intro j hj h
  have hne : n ≠ [] := fun e => by rw [e] at hn; exact absurd hn (by decide)
  have hj2 : j = 0 ∨ j = 1 ∨ j = 2 ∨ j = 3 ∨ j = 4 ∨ j = 5 ∨ j = 6 ∨ j = 7 ∨ j = 8 ∨ j = 9 ∨ j = 10 ∨ j = 11 := by omega
  subst h
  rcases hj2 with rfl | rfl | rfl | rfl | rfl | rfl | rfl | rfl | rfl | rfl | rfl | rfl
  · exact absurd rfl hne
  · exact absurd rfl hne
  all_goals decide
theorem tag_found {n : Bs} (hn : isTag n = true) : ∃ j, j < 12 ∧ tgK j = n := by
  unfold isTag tagsL at hn
  simp only [List.contains_cons, List.contains_nil, Bool.or_false, Bool.or_eq_true, beq_iff_eq] at hn
  rcases hn with rfl | rfl | rfl | rfl | rfl | rfl | rfl | rfl | rfl | rfl
  all_goals first | exact ⟨2, by decide, rfl⟩ | exact ⟨3, by decide, rfl⟩ | exact ⟨4, by decide, rfl⟩ | exact ⟨5, by decide, rfl⟩ | exact ⟨6, by decide, rfl⟩ | exact ⟨7, by decide, rfl⟩ | exact ⟨8, by decide, rfl⟩ | exact ⟨9, by decide, rfl⟩ | exact ⟨10, by decide, rfl⟩ | exact ⟨11, by decide, rfl⟩
set_option maxHeartbeats 1000000 in
theorem kind1_nil (tg n : Bs) (mx : Int) (pt : Bool) (B : Nat) (w : World) (hB : w.cell? ⟨B, 0, none⟩ = some (sV n)) (r : Bool) (hr : (tg == n) = r) :
    Calls Tryz.prog 119 #[.agg #[sV tg, .nilFunc, intV mx, .bool pt], .pointer (some ⟨B, 0, none⟩)] w fun e w' => e = .returned (.bool r) ∧ Below w.heap.size w w' := by
  have t1 := baL_tl tg
  have t2 := baL_tl n
  have hb2 := (below_alloc w (.cells #[sV tg, .nilFunc, intV mx, .bool pt] fmT)).cell (p := ⟨B, 0, none⟩) (cellT_lt hB)
  rw [hB] at hb2
  go_enter Tryz.func119, Tryz.ntmps119
  go_wp2
  go_ret
  exact ⟨rfl, below_alloc _ _⟩
set_option maxHeartbeats 1000000 in
theorem kind1_fn (tg n : Bs) (F : FuncId) (mx : Int) (pt : Bool) (B : Nat) (w : World) (hB : w.cell? ⟨B, 0, none⟩ = some (sV n)) (r : Bool) (hr : (tg == n) = r) :
    Calls Tryz.prog 119 #[.agg #[sV tg, .func (.func F) #[] #[], intV mx, .bool pt], .pointer (some ⟨B, 0, none⟩)] w fun e w' => e = .returned (.bool r) ∧ Below w.heap.size w w' := by
  have t1 := baL_tl tg
  have t2 := baL_tl n
  have hb2 := (below_alloc w (.cells #[sV tg, .func (.func F) #[] #[], intV mx, .bool pt] fmT)).cell (p := ⟨B, 0, none⟩) (cellT_lt hB)
  rw [hB] at hb2
  go_enter Tryz.func119, Tryz.ntmps119
  go_wp2
  go_ret
  exact ⟨rfl, below_alloc _ _⟩
theorem kind1_any (j : Nat) (n : Bs) (B : Nat) (w : World) (hB : w.cell? ⟨B, 0, none⟩ = some (sV n)) (r : Bool) (hr : (tgK j == n) = r) :
    Calls Tryz.prog 119 #[.agg #[sV (tgK j), fnK j, intV (mxK j), .bool (ptK j)], .pointer (some ⟨B, 0, none⟩)] w fun e w' => e = .returned (.bool r) ∧ Below w.heap.size w w' := by
  rcases fnK_form j with h | ⟨F, h⟩
  · rw [h]; exact kind1_nil _ n _ _ B w hB r hr
  · rw [h]; exact kind1_fn _ n F _ _ B w hB r hr
set_option maxHeartbeats 2000000 in
theorem indexForm_any (g B : Nat) (n : Bs) (hn : isTag n = true) (w : World) (hg : w.heap[g]? = some (.cells formsA faT (0, 0))) (hB : w.cell? ⟨B, 0, none⟩ = some (sV n)) :
    Calls Tryz.prog 118 #[.slice (some ⟨g, 0, none⟩) 12 12, .func (.func 119) #[] #[.pointer (some ⟨B, 0, none⟩)]] w fun e w' => e = .returned (intV (kOf n)) ∧ Below w.heap.size w w' := by
  have HG := Lib.hid hg
  have HBB := Lib.hid hB
  have HN := Lib.hid hn
  clear hg hB hn
  go_enter Tryz.func118, Tryz.ntmps118
  go_wp2
  go_loopw [8] (fun iv wr => ∃ j : Nat, j ≤ 12 ∧ iv = .int .i64 j ∧ (∀ i, i < j → tgK i ≠ n) ∧ Below w.heap.size w wr) (fun iv _ => 12 - (intOf iv).toNat)
  case atStart => exact ⟨0, Nat.zero_le _, rfl, fun i h => absurd h (by omega), Below.refl _ _⟩
  case round =>
    obtain ⟨j, hj, rfl, hno, hB⟩ := hrel
    obtain ⟨wk, rfl⟩ : ∃ x, x = wr := ⟨_, rfl⟩
    have HNO := Lib.hid hno
    have HB := Lib.hid hB
    clear hno
    by_cases hlt : j < 12
    · obtain ⟨c0, c1, c2, c3⟩ := form_at HG.out j hlt
      have hgl := heap_ltT HG.out
      have d0 := (hB.cell (p := ⟨g, j * 4, none⟩) hgl).trans c0
      have d1 := (hB.cell (p := ⟨g, j * 4 + 1, none⟩) hgl).trans c1
      have d2 := (hB.cell (p := ⟨g, j * 4 + 2, none⟩) hgl).trans c2
      have d3 := (hB.cell (p := ⟨g, j * 4 + 3, none⟩) hgl).trans c3
      have hcb := (hB.cell (p := ⟨B, 0, none⟩) (cellT_lt HBB.out)).trans HBB.out
      obtain ⟨rb, hrb⟩ : ∃ rb, (tgK j == n) = rb := ⟨_, rfl⟩
      have HC := Lib.hid (kind1_any j n B wk hcb rb hrb)
      obtain ⟨tg, htg⟩ : ∃ t, tgK j = t := ⟨_, rfl⟩
      obtain ⟨fv, hfv⟩ : ∃ t, fnK j = t := ⟨_, rfl⟩
      obtain ⟨mx, hmx⟩ : ∃ t, mxK j = t := ⟨_, rfl⟩
      obtain ⟨pt, hpt⟩ : ∃ t, ptK j = t := ⟨_, rfl⟩
      rw [htg, hfv, hmx, hpt] at HC
      rw [htg] at d0
      rw [hfv] at d1
      rw [hmx] at d2
      rw [hpt] at d3
      have HTG := Lib.hid htg
      have i0 : (0 : Int) ≤ (j : Int) := by omega
      have i1 : (j : Int) < 12 := by omega
      have i2 : (j : Int) < ((12 : Nat) : Int) := by omega
      clear c0 c1 c2 c3 hgl hcb hfv hmx hpt hB htg
      go_wp2_with fail
      refine HC.out.mono ?_
      rintro e w2 ⟨rfl, h2⟩
      have HB2 := Lib.hid (below_then HB.out h2)
      clear h2 d0 d1 d2 d3 HC
      cases rb
      · have HX := Lib.hid (show tgK j ≠ n by simpa using hrb)
        go_wp2
        go_roundw
        case rel => exact ⟨j + 1, by omega, by go_num, fun i hi => by
          rcases Nat.lt_or_ge i j with h | h
          · exact HNO.out i h
          · obtain rfl : i = j := by omega
            exact HX.out, HB2.out⟩
        case measure => simp [intOf]; omega
      · have HX := Lib.hid (show (j : Int) = kOf n from kOf_at HN.out j hlt (by simpa using hrb))
        go_wp2
        go_ret
        exact ⟨by rw [← HX.out]; rfl, HB2.out⟩
    · exfalso
      obtain ⟨i, hi, h⟩ := tag_found HN.out
      exact HNO.out i (by omega) h
set_option maxHeartbeats 2000000 in
theorem kindOfT_any (n : Bs) (hn : isTag n = true) (w : World) :
    Calls Tryz.prog 94 #[sV n] w fun e w' => e = .returned (intV (kOf n)) ∧ Below w.heap.size w w' := by
  obtain ⟨hz, hi⟩ := zero_of_info info_forms
  have HI := Lib.hid hi
  clear hi
  have hb := World.alloc_heap_new w (.cells #[sV n] 9)
  have hB := below_alloc w (.cells #[sV n] 9)
  have HBB := Lib.hid (And.intro hb hB)
  clear hb hB
  go_enter Tryz.func94, Tryz.ntmps94
  go_wp2_with (first
    | (go_at_call 83; refine (forms_any _).mono ?_; rintro e w1 ⟨rfl, h1⟩; have H1 := Lib.hid h1; clear h1)
    | (refine wpList_store_intoT rfl faT (.tmp 3) (.tmp 4) rfl w1.heap.size formsA rfl rfl faT forms0 (World.alloc_heap_new _ _) size_forms (by rw [formsA_size, forms0_size]) formsA_one ?_; intro W1 g1 g2 g3))
  obtain ⟨hb, hB⟩ := HBB.out
  have hb1 := (H1.out.block _ (heap_ltT hb)).trans hb
  have hlt := heap_ltT hb1
  have hbW : W1.heap[w.heap.size]? = some (.cells #[sV n] 9 (0, 0)) := by
    rw [g2 _ (by omega), Below.heap_alloc _ _ _ hlt]; exact hb1
  have hBW : Below w.heap.size w W1 := (hB.trans (H1.out.mono hB.size)).trans (((Below.refl _ w1).alloc (by omega) _).trans (g3 _ (by omega)))
  have HC := Lib.hid (indexForm_any w1.heap.size w.heap.size n hn W1 g1 (box1T hbW))
  have HBW := Lib.hid hBW
  clear hb hB hb1 hlt hbW hBW g1 g2 g3
  refine HC.out.mono ?_
  rintro e w2 ⟨rfl, h2⟩
  have HB2 := Lib.hid (below_then HBW.out h2)
  clear h2 HC
  go_wp2
  go_ret
  exact ⟨rfl, HB2.out⟩
end Go.Proofs.YtmfcepfagbkceaaGreatDoor
namespace Go.Proofs.YtmfcepfagbkceaaGreatDoor
set_option linter.unusedSimpArgs false
set_option linter.unusedVariables false
set_option maxRecDepth 100000
open Go.RowKit Go.Shelf Go.Deep
set_option maxHeartbeats 2000000 in
theorem nodeOf_text (n v : Bs) (o : Int) (w : World) :
    Calls Tryz.prog 69 #[.agg #[intV 1, sV n, sV v, intV o]] w fun e w' => e = .returned (.agg #[intV 1, sV v, intV 0, .slice none 0 0]) ∧ Below w.heap.size w w' := by
  obtain ⟨w2, hw2⟩ : ∃ X, ((w.alloc (.cells #[intV 1, sV n, sV v, intV o] 52 (0, 0))).alloc (.cells #[.int .i64 0, .string ⟨#[]⟩, .int .i64 0, .slice none 0 0] nT (0, 0))) = X := ⟨_, rfl⟩
  obtain ⟨s2, k0, k1, kb⟩ := heap_allocT2 w _ _ hw2
  obtain ⟨p0, p1, p2, p3⟩ := box4T k0
  obtain ⟨q0, q1, q2, q3⟩ := box4T k1
  have r0 := heap_free k1 0
  have r1 := heap_free k1 1
  have r2 := heap_free k1 2
  have r3 := heap_free k1 3
  have HW := Lib.hid hw2
  have HK := Lib.hid (And.intro k1 kb)
  clear hw2 k0 k1 kb s2
  go_enter Tryz.func69, Tryz.ntmps69
  go_upto_region 1 with fail
  rw [HW.out]
  go_wp2
  obtain ⟨z1, z2, z3⟩ := set4P (N := w.heap.size) HK.out.1 (by omega) rfl
  refine bodyPost_ret (v := .agg #[intV 1, sV v, intV 0, .slice none 0 0]) ?_ rfl ⟨rfl, HK.out.2.trans z3⟩
  obtain ⟨y0, y1, y2, y3⟩ := heap4P z1
  simp [results, Tryz.f69, go_sem, y0, y1, y2, y3]
set_option maxHeartbeats 4000000 in
theorem nodeOf_num_nil (k : Int) (hk : (k == 1) = false) (n v : Bs) (o kk : Int) (tg : Bs) (mx : Int) (hmx : decide (0 < mx) = true) (pt : Bool) (z : Int) (hz : Lib.atoiAll v = .ok z) (hl : v.length ≤ 1048576) (w : World) [T w]
    (hkind : ∀ W, Calls Tryz.prog 94 #[sV n] W fun e w' => e = .returned (intV kk) ∧ Below W.heap.size W w')
    (hform : ∀ W, Calls Tryz.prog 55 #[intV kk] W fun e w' => e = .returned (.tuple #[.agg #[sV tg, .nilFunc, intV mx, .bool pt], .bool true]) ∧ Below W.heap.size W w') :
    Calls Tryz.prog 69 #[.agg #[intV k, sV n, sV v, intV o]] w fun e w' => e = .returned (.agg #[intV kk, sV [], intV z, .slice none 0 0]) ∧ Below w.heap.size w w' := by
  obtain ⟨w2, hw2⟩ : ∃ X, ((w.alloc (.cells #[intV k, sV n, sV v, intV o] 52 (0, 0))).alloc (.cells #[.int .i64 0, .string ⟨#[]⟩, .int .i64 0, .slice none 0 0] nT (0, 0))) = X := ⟨_, rfl⟩
  obtain ⟨s2, k0, k1, kb⟩ := heap_allocT2 w _ _ hw2
  obtain ⟨p0, p1, p2, p3⟩ := box4T k0
  have HW := Lib.hid hw2
  have HK := Lib.hid (And.intro k0 (And.intro k1 (And.intro kb s2)))
  have HKI := Lib.hid hkind
  have HFO := Lib.hid hform
  have HAT := Lib.hid (fun (W : World) [T W] => (atoi_any v hl W).mono (R' := fun e w' => e = .returned (.tuple #[intV z, .nilIface]) ∧ Below W.heap.size W w') (fun e w' h => by
    rcases h with ⟨m, hm, he, hb⟩ | ⟨m, t, p, hno, _⟩
    · rw [hz] at hm; cases hm; exact ⟨he, hb⟩
    · exact absurd hz (hno z)))
  clear hz hl
  clear hw2 k0 k1 kb s2 hkind hform
  go_enter Tryz.func69, Tryz.ntmps69
  go_upto_region 1 with fail
  rw [HW.out]
  go_wp2_with fail
  refine (HKI.out _).mono ?_
  rintro e w3 ⟨rfl, h3⟩
  obtain ⟨k0, k1, kb, s2⟩ := HK.out
  obtain ⟨w4, hw4⟩ : ∃ X, w3.alloc (.cells #[intV kk, .string ⟨#[]⟩, .int .i64 0, .slice none 0 0] nT (0, 0)) = X := ⟨_, rfl⟩
  have ha4 : Below w3.heap.size w3 w4 := by rw [← hw4]; exact below_alloc _ _
  have h4 : Below w2.heap.size w2 w4 := below_then h3 ha4
  have hn4 : w4.heap[w3.heap.size]? = some (.cells #[intV kk, .string ⟨#[]⟩, .int .i64 0, .slice none 0 0] nT (0, 0)) := by rw [← hw4]; exact World.alloc_heap_new _ _
  have l4 := (h4.block _ (heap_ltT k0)).trans k0
  have r4 := (h4.block _ (heap_ltT k1)).trans k1
  have B4 : Below w.heap.size w w4 := below_then kb h4
  have hs3 := h3.size
  obtain ⟨m0, m1, m2, m3⟩ := box4T hn4
  have HW4 := Lib.hid hw4
  have H4 := Lib.hid (And.intro l4 (And.intro r4 (And.intro hn4 (And.intro B4 (show w.heap.size + 2 ≤ w3.heap.size by omega)))))
  clear h3 k0 k1 kb s2 hw4 ha4 h4 hn4 l4 r4 B4 hs3 p0 p1 p2 p3
  go_upto_region 4 with fail
  rw [HW4.out]
  go_wp2_with fail
  refine (HFO.out _).mono ?_
  rintro e w5 ⟨rfl, h5⟩
  obtain ⟨l4, r4, hn4, B4, hs4⟩ := H4.out
  obtain ⟨w6, hw6⟩ : ∃ X, w5.alloc (.cells #[sV tg, .nilFunc, intV mx, .bool pt] fmT (0, 0)) = X := ⟨_, rfl⟩
  have ha6 : Below w5.heap.size w5 w6 := by rw [← hw6]; exact below_alloc _ _
  have h6 : Below w4.heap.size w4 w6 := below_then h5 ha6
  have hf6 : w6.heap[w5.heap.size]? = some (.cells #[sV tg, .nilFunc, intV mx, .bool pt] fmT (0, 0)) := by rw [← hw6]; exact World.alloc_heap_new _ _
  have l6 := (h6.block _ (heap_ltT l4)).trans l4
  have r6 := (h6.block _ (heap_ltT r4)).trans r4
  have n6 := (h6.block _ (heap_ltT hn4)).trans hn4
  have B6 : Below w.heap.size w w6 := below_then B4 h6
  clear m0 m1 m2 m3
  obtain ⟨f0, f1, f2, f3⟩ := box4T hf6
  obtain ⟨p0, p1, p2, p3⟩ := box4T l6
  haveI t6 : T w6 := T.below B6
  have HW6 := Lib.hid hw6
  have H6 := Lib.hid (And.intro r6 (And.intro n6 (And.intro B6 hs4)))
  clear h5 hw6 ha6 h6 hf6 l6 r6 n6 B6 l4 r4 hn4 B4
  go_upto_region 5 with fail
  rw [HW6.out]
  go_wp2_with fail
  refine (HAT.out _).mono ?_
  rintro e w7 h7
  obtain ⟨rfl, h7⟩ := h7
  have H7 := Lib.hid (show w7.heap[w.heap.size + 1]? = some (.cells #[.int .i64 0, .string ⟨#[]⟩, .int .i64 0, .slice none 0 0] nT (0, 0)) ∧ w7.heap[w3.heap.size]? = some (.cells #[intV kk, .string ⟨#[]⟩, .int .i64 0, .slice none 0 0] nT (0, 0)) ∧ Below w.heap.size w w7 ∧ w.heap.size + 2 ≤ w3.heap.size from
    ⟨(h7.block _ (heap_ltT H6.out.1)).trans H6.out.1, (h7.block _ (heap_ltT H6.out.2.1)).trans H6.out.2.1, below_then H6.out.2.2.1 h7, H6.out.2.2.2⟩)
  clear h7 p0 p1 p2 p3 f0 f1 f2 f3
  obtain ⟨r6, n6, B6, hs6⟩ := H7.out
  obtain ⟨y0, y1, y2, y3⟩ := box4T n6
  obtain ⟨q0, q1, q2, q3⟩ := box4T r6
  have u0 := heap_free r6 0
  have u1 := heap_free r6 1
  have u2 := heap_free r6 2
  have u3 := heap_free r6 3
  have v2 := heap_free n6 2
  have hne : w.heap.size + 1 ≠ w3.heap.size := by omega
  have hne2 : w3.heap.size ≠ w.heap.size + 1 := by omega
  clear r6 n6 B6
  go_wp2
  obtain ⟨r6, n6, B6, hs6⟩ := H7.out
  have r7 := (Below.heap_setCell w7 ⟨w3.heap.size, 2, none⟩ (intV z) (w.heap.size + 1) hne).trans r6
  obtain ⟨z1, z2, z3⟩ := set4P (N := w.heap.size) r7 (by omega) rfl
  refine bodyPost_ret (v := .agg #[intV kk, sV [], intV z, .slice none 0 0]) ?_ rfl ⟨rfl, (B6.setCell (p := ⟨w3.heap.size, 2, none⟩) (by show w.heap.size ≤ w3.heap.size; omega) _).trans z3⟩
  obtain ⟨a0, a1, a2, a3⟩ := heap4P z1
  simp [results, Tryz.f69, go_sem, a0, a1, a2, a3]
  try rfl
set_option maxHeartbeats 4000000 in
theorem nodeOf_txt_nil (k : Int) (hk : (k == 1) = false) (n v : Bs) (o kk : Int) (tg : Bs) (mx : Int) (hmx : decide (0 < mx) = false) (pt : Bool) (w : World) [T w]
    (hkind : ∀ W, Calls Tryz.prog 94 #[sV n] W fun e w' => e = .returned (intV kk) ∧ Below W.heap.size W w')
    (hform : ∀ W, Calls Tryz.prog 55 #[intV kk] W fun e w' => e = .returned (.tuple #[.agg #[sV tg, .nilFunc, intV mx, .bool pt], .bool true]) ∧ Below W.heap.size W w') :
    Calls Tryz.prog 69 #[.agg #[intV k, sV n, sV v, intV o]] w fun e w' => e = .returned (.agg #[intV kk, sV v, intV 0, .slice none 0 0]) ∧ Below w.heap.size w w' := by
  obtain ⟨w2, hw2⟩ : ∃ X, ((w.alloc (.cells #[intV k, sV n, sV v, intV o] 52 (0, 0))).alloc (.cells #[.int .i64 0, .string ⟨#[]⟩, .int .i64 0, .slice none 0 0] nT (0, 0))) = X := ⟨_, rfl⟩
  obtain ⟨s2, k0, k1, kb⟩ := heap_allocT2 w _ _ hw2
  obtain ⟨p0, p1, p2, p3⟩ := box4T k0
  have HW := Lib.hid hw2
  have HK := Lib.hid (And.intro k0 (And.intro k1 (And.intro kb s2)))
  have HKI := Lib.hid hkind
  have HFO := Lib.hid hform
  clear hw2 k0 k1 kb s2 hkind hform
  go_enter Tryz.func69, Tryz.ntmps69
  go_upto_region 1 with fail
  rw [HW.out]
  go_wp2_with fail
  refine (HKI.out _).mono ?_
  rintro e w3 ⟨rfl, h3⟩
  obtain ⟨k0, k1, kb, s2⟩ := HK.out
  obtain ⟨w4, hw4⟩ : ∃ X, w3.alloc (.cells #[intV kk, .string ⟨#[]⟩, .int .i64 0, .slice none 0 0] nT (0, 0)) = X := ⟨_, rfl⟩
  have ha4 : Below w3.heap.size w3 w4 := by rw [← hw4]; exact below_alloc _ _
  have h4 : Below w2.heap.size w2 w4 := below_then h3 ha4
  have hn4 : w4.heap[w3.heap.size]? = some (.cells #[intV kk, .string ⟨#[]⟩, .int .i64 0, .slice none 0 0] nT (0, 0)) := by rw [← hw4]; exact World.alloc_heap_new _ _
  have l4 := (h4.block _ (heap_ltT k0)).trans k0
  have r4 := (h4.block _ (heap_ltT k1)).trans k1
  have B4 : Below w.heap.size w w4 := below_then kb h4
  have hs3 := h3.size
  obtain ⟨m0, m1, m2, m3⟩ := box4T hn4
  have HW4 := Lib.hid hw4
  have H4 := Lib.hid (And.intro l4 (And.intro r4 (And.intro hn4 (And.intro B4 (show w.heap.size + 2 ≤ w3.heap.size by omega)))))
  clear h3 k0 k1 kb s2 hw4 ha4 h4 hn4 l4 r4 B4 hs3 p0 p1 p2 p3
  go_upto_region 4 with fail
  rw [HW4.out]
  go_wp2_with fail
  refine (HFO.out _).mono ?_
  rintro e w5 ⟨rfl, h5⟩
  obtain ⟨l4, r4, hn4, B4, hs4⟩ := H4.out
  obtain ⟨w6, hw6⟩ : ∃ X, w5.alloc (.cells #[sV tg, .nilFunc, intV mx, .bool pt] fmT (0, 0)) = X := ⟨_, rfl⟩
  have ha6 : Below w5.heap.size w5 w6 := by rw [← hw6]; exact below_alloc _ _
  have h6 : Below w4.heap.size w4 w6 := below_then h5 ha6
  have hf6 : w6.heap[w5.heap.size]? = some (.cells #[sV tg, .nilFunc, intV mx, .bool pt] fmT (0, 0)) := by rw [← hw6]; exact World.alloc_heap_new _ _
  have l6 := (h6.block _ (heap_ltT l4)).trans l4
  have r6 := (h6.block _ (heap_ltT r4)).trans r4
  have n6 := (h6.block _ (heap_ltT hn4)).trans hn4
  have B6 : Below w.heap.size w w6 := below_then B4 h6
  clear m0 m1 m2 m3
  obtain ⟨f0, f1, f2, f3⟩ := box4T hf6
  obtain ⟨p0, p1, p2, p3⟩ := box4T l6
  haveI t6 : T w6 := T.below B6
  have HW6 := Lib.hid hw6
  have H6 := Lib.hid (And.intro r6 (And.intro n6 (And.intro B6 hs4)))
  clear h5 hw6 ha6 h6 hf6 l6 r6 n6 B6 l4 r4 hn4 B4
  go_upto_region 5 with fail
  rw [HW6.out]
  have H7 := H6
  obtain ⟨r6, n6, B6, hs6⟩ := H7.out
  obtain ⟨y0, y1, y2, y3⟩ := box4T n6
  obtain ⟨q0, q1, q2, q3⟩ := box4T r6
  have u0 := heap_free r6 0
  have u1 := heap_free r6 1
  have u2 := heap_free r6 2
  have u3 := heap_free r6 3
  have v1 := heap_free n6 1
  have hne : w.heap.size + 1 ≠ w3.heap.size := by omega
  have hne2 : w3.heap.size ≠ w.heap.size + 1 := by omega
  clear r6 n6 B6
  go_wp2
  obtain ⟨r6, n6, B6, hs6⟩ := H7.out
  have r7 := (Below.heap_setCell w6 ⟨w3.heap.size, 1, none⟩ (sV v) (w.heap.size + 1) hne).trans r6
  obtain ⟨z1, z2, z3⟩ := set4P (N := w.heap.size) r7 (by omega) rfl
  refine bodyPost_ret (v := .agg #[intV kk, sV v, intV 0, .slice none 0 0]) ?_ rfl ⟨rfl, (B6.setCell (p := ⟨w3.heap.size, 1, none⟩) (by show w.heap.size ≤ w3.heap.size; omega) _).trans z3⟩
  obtain ⟨a0, a1, a2, a3⟩ := heap4P z1
  simp [results, Tryz.f69, go_sem, a0, a1, a2, a3]
  try rfl
set_option maxHeartbeats 4000000 in
theorem nodeOf_num_fn (k : Int) (hk : (k == 1) = false) (n v : Bs) (o kk : Int) (tg : Bs) (F : FuncId) (mx : Int) (hmx : decide (0 < mx) = true) (pt : Bool) (z : Int) (hz : Lib.atoiAll v = .ok z) (hl : v.length ≤ 1048576) (w : World) [T w]
    (hkind : ∀ W, Calls Tryz.prog 94 #[sV n] W fun e w' => e = .returned (intV kk) ∧ Below W.heap.size W w')
    (hform : ∀ W, Calls Tryz.prog 55 #[intV kk] W fun e w' => e = .returned (.tuple #[.agg #[sV tg, .func (.func F) #[] #[], intV mx, .bool pt], .bool true]) ∧ Below W.heap.size W w') :
    Calls Tryz.prog 69 #[.agg #[intV k, sV n, sV v, intV o]] w fun e w' => e = .returned (.agg #[intV kk, sV [], intV z, .slice none 0 0]) ∧ Below w.heap.size w w' := by
  obtain ⟨w2, hw2⟩ : ∃ X, ((w.alloc (.cells #[intV k, sV n, sV v, intV o] 52 (0, 0))).alloc (.cells #[.int .i64 0, .string ⟨#[]⟩, .int .i64 0, .slice none 0 0] nT (0, 0))) = X := ⟨_, rfl⟩
  obtain ⟨s2, k0, k1, kb⟩ := heap_allocT2 w _ _ hw2
  obtain ⟨p0, p1, p2, p3⟩ := box4T k0
  have HW := Lib.hid hw2
  have HK := Lib.hid (And.intro k0 (And.intro k1 (And.intro kb s2)))
  have HKI := Lib.hid hkind
  have HFO := Lib.hid hform
  have HAT := Lib.hid (fun (W : World) [T W] => (atoi_any v hl W).mono (R' := fun e w' => e = .returned (.tuple #[intV z, .nilIface]) ∧ Below W.heap.size W w') (fun e w' h => by
    rcases h with ⟨m, hm, he, hb⟩ | ⟨m, t, p, hno, _⟩
    · rw [hz] at hm; cases hm; exact ⟨he, hb⟩
    · exact absurd hz (hno z)))
  clear hz hl
  clear hw2 k0 k1 kb s2 hkind hform
  go_enter Tryz.func69, Tryz.ntmps69
  go_upto_region 1 with fail
  rw [HW.out]
  go_wp2_with fail
  refine (HKI.out _).mono ?_
  rintro e w3 ⟨rfl, h3⟩
  obtain ⟨k0, k1, kb, s2⟩ := HK.out
  obtain ⟨w4, hw4⟩ : ∃ X, w3.alloc (.cells #[intV kk, .string ⟨#[]⟩, .int .i64 0, .slice none 0 0] nT (0, 0)) = X := ⟨_, rfl⟩
  have ha4 : Below w3.heap.size w3 w4 := by rw [← hw4]; exact below_alloc _ _
  have h4 : Below w2.heap.size w2 w4 := below_then h3 ha4
  have hn4 : w4.heap[w3.heap.size]? = some (.cells #[intV kk, .string ⟨#[]⟩, .int .i64 0, .slice none 0 0] nT (0, 0)) := by rw [← hw4]; exact World.alloc_heap_new _ _
  have l4 := (h4.block _ (heap_ltT k0)).trans k0
  have r4 := (h4.block _ (heap_ltT k1)).trans k1
  have B4 : Below w.heap.size w w4 := below_then kb h4
  have hs3 := h3.size
  obtain ⟨m0, m1, m2, m3⟩ := box4T hn4
  have HW4 := Lib.hid hw4
  have H4 := Lib.hid (And.intro l4 (And.intro r4 (And.intro hn4 (And.intro B4 (show w.heap.size + 2 ≤ w3.heap.size by omega)))))
  clear h3 k0 k1 kb s2 hw4 ha4 h4 hn4 l4 r4 B4 hs3 p0 p1 p2 p3
  go_upto_region 4 with fail
  rw [HW4.out]
  go_wp2_with fail
  refine (HFO.out _).mono ?_
  rintro e w5 ⟨rfl, h5⟩
  obtain ⟨l4, r4, hn4, B4, hs4⟩ := H4.out
  obtain ⟨w6, hw6⟩ : ∃ X, w5.alloc (.cells #[sV tg, .func (.func F) #[] #[], intV mx, .bool pt] fmT (0, 0)) = X := ⟨_, rfl⟩
  have ha6 : Below w5.heap.size w5 w6 := by rw [← hw6]; exact below_alloc _ _
  have h6 : Below w4.heap.size w4 w6 := below_then h5 ha6
  have hf6 : w6.heap[w5.heap.size]? = some (.cells #[sV tg, .func (.func F) #[] #[], intV mx, .bool pt] fmT (0, 0)) := by rw [← hw6]; exact World.alloc_heap_new _ _
  have l6 := (h6.block _ (heap_ltT l4)).trans l4
  have r6 := (h6.block _ (heap_ltT r4)).trans r4
  have n6 := (h6.block _ (heap_ltT hn4)).trans hn4
  have B6 : Below w.heap.size w w6 := below_then B4 h6
  clear m0 m1 m2 m3
  obtain ⟨f0, f1, f2, f3⟩ := box4T hf6
  obtain ⟨p0, p1, p2, p3⟩ := box4T l6
  haveI t6 : T w6 := T.below B6
  have HW6 := Lib.hid hw6
  have H6 := Lib.hid (And.intro r6 (And.intro n6 (And.intro B6 hs4)))
  clear h5 hw6 ha6 h6 hf6 l6 r6 n6 B6 l4 r4 hn4 B4
  go_upto_region 5 with fail
  rw [HW6.out]
  go_wp2_with fail
  refine (HAT.out _).mono ?_
  rintro e w7 h7
  obtain ⟨rfl, h7⟩ := h7
  have H7 := Lib.hid (show w7.heap[w.heap.size + 1]? = some (.cells #[.int .i64 0, .string ⟨#[]⟩, .int .i64 0, .slice none 0 0] nT (0, 0)) ∧ w7.heap[w3.heap.size]? = some (.cells #[intV kk, .string ⟨#[]⟩, .int .i64 0, .slice none 0 0] nT (0, 0)) ∧ Below w.heap.size w w7 ∧ w.heap.size + 2 ≤ w3.heap.size from
    ⟨(h7.block _ (heap_ltT H6.out.1)).trans H6.out.1, (h7.block _ (heap_ltT H6.out.2.1)).trans H6.out.2.1, below_then H6.out.2.2.1 h7, H6.out.2.2.2⟩)
  clear h7 p0 p1 p2 p3 f0 f1 f2 f3
  obtain ⟨r6, n6, B6, hs6⟩ := H7.out
  obtain ⟨y0, y1, y2, y3⟩ := box4T n6
  obtain ⟨q0, q1, q2, q3⟩ := box4T r6
  have u0 := heap_free r6 0
  have u1 := heap_free r6 1
  have u2 := heap_free r6 2
  have u3 := heap_free r6 3
  have v2 := heap_free n6 2
  have hne : w.heap.size + 1 ≠ w3.heap.size := by omega
  have hne2 : w3.heap.size ≠ w.heap.size + 1 := by omega
  clear r6 n6 B6
  go_wp2
  obtain ⟨r6, n6, B6, hs6⟩ := H7.out
  have r7 := (Below.heap_setCell w7 ⟨w3.heap.size, 2, none⟩ (intV z) (w.heap.size + 1) hne).trans r6
  obtain ⟨z1, z2, z3⟩ := set4P (N := w.heap.size) r7 (by omega) rfl
  refine bodyPost_ret (v := .agg #[intV kk, sV [], intV z, .slice none 0 0]) ?_ rfl ⟨rfl, (B6.setCell (p := ⟨w3.heap.size, 2, none⟩) (by show w.heap.size ≤ w3.heap.size; omega) _).trans z3⟩
  obtain ⟨a0, a1, a2, a3⟩ := heap4P z1
  simp [results, Tryz.f69, go_sem, a0, a1, a2, a3]
  try rfl
set_option maxHeartbeats 4000000 in
theorem nodeOf_txt_fn (k : Int) (hk : (k == 1) = false) (n v : Bs) (o kk : Int) (tg : Bs) (F : FuncId) (mx : Int) (hmx : decide (0 < mx) = false) (pt : Bool) (w : World) [T w]
    (hkind : ∀ W, Calls Tryz.prog 94 #[sV n] W fun e w' => e = .returned (intV kk) ∧ Below W.heap.size W w')
    (hform : ∀ W, Calls Tryz.prog 55 #[intV kk] W fun e w' => e = .returned (.tuple #[.agg #[sV tg, .func (.func F) #[] #[], intV mx, .bool pt], .bool true]) ∧ Below W.heap.size W w') :
    Calls Tryz.prog 69 #[.agg #[intV k, sV n, sV v, intV o]] w fun e w' => e = .returned (.agg #[intV kk, sV v, intV 0, .slice none 0 0]) ∧ Below w.heap.size w w' := by
  obtain ⟨w2, hw2⟩ : ∃ X, ((w.alloc (.cells #[intV k, sV n, sV v, intV o] 52 (0, 0))).alloc (.cells #[.int .i64 0, .string ⟨#[]⟩, .int .i64 0, .slice none 0 0] nT (0, 0))) = X := ⟨_, rfl⟩
  obtain ⟨s2, k0, k1, kb⟩ := heap_allocT2 w _ _ hw2
  obtain ⟨p0, p1, p2, p3⟩ := box4T k0
  have HW := Lib.hid hw2
  have HK := Lib.hid (And.intro k0 (And.intro k1 (And.intro kb s2)))
  have HKI := Lib.hid hkind
  have HFO := Lib.hid hform
  clear hw2 k0 k1 kb s2 hkind hform
  go_enter Tryz.func69, Tryz.ntmps69
  go_upto_region 1 with fail
  rw [HW.out]
  go_wp2_with fail
  refine (HKI.out _).mono ?_
  rintro e w3 ⟨rfl, h3⟩
  obtain ⟨k0, k1, kb, s2⟩ := HK.out
  obtain ⟨w4, hw4⟩ : ∃ X, w3.alloc (.cells #[intV kk, .string ⟨#[]⟩, .int .i64 0, .slice none 0 0] nT (0, 0)) = X := ⟨_, rfl⟩
  have ha4 : Below w3.heap.size w3 w4 := by rw [← hw4]; exact below_alloc _ _
  have h4 : Below w2.heap.size w2 w4 := below_then h3 ha4
  have hn4 : w4.heap[w3.heap.size]? = some (.cells #[intV kk, .string ⟨#[]⟩, .int .i64 0, .slice none 0 0] nT (0, 0)) := by rw [← hw4]; exact World.alloc_heap_new _ _
  have l4 := (h4.block _ (heap_ltT k0)).trans k0
  have r4 := (h4.block _ (heap_ltT k1)).trans k1
  have B4 : Below w.heap.size w w4 := below_then kb h4
  have hs3 := h3.size
  obtain ⟨m0, m1, m2, m3⟩ := box4T hn4
  have HW4 := Lib.hid hw4
  have H4 := Lib.hid (And.intro l4 (And.intro r4 (And.intro hn4 (And.intro B4 (show w.heap.size + 2 ≤ w3.heap.size by omega)))))
  clear h3 k0 k1 kb s2 hw4 ha4 h4 hn4 l4 r4 B4 hs3 p0 p1 p2 p3
  go_upto_region 4 with fail
  rw [HW4.out]
  go_wp2_with fail
  refine (HFO.out _).mono ?_
  rintro e w5 ⟨rfl, h5⟩
  obtain ⟨l4, r4, hn4, B4, hs4⟩ := H4.out
  obtain ⟨w6, hw6⟩ : ∃ X, w5.alloc (.cells #[sV tg, .func (.func F) #[] #[], intV mx, .bool pt] fmT (0, 0)) = X := ⟨_, rfl⟩
  have ha6 : Below w5.heap.size w5 w6 := by rw [← hw6]; exact below_alloc _ _
  have h6 : Below w4.heap.size w4 w6 := below_then h5 ha6
  have hf6 : w6.heap[w5.heap.size]? = some (.cells #[sV tg, .func (.func F) #[] #[], intV mx, .bool pt] fmT (0, 0)) := by rw [← hw6]; exact World.alloc_heap_new _ _
  have l6 := (h6.block _ (heap_ltT l4)).trans l4
  have r6 := (h6.block _ (heap_ltT r4)).trans r4
  have n6 := (h6.block _ (heap_ltT hn4)).trans hn4
  have B6 : Below w.heap.size w w6 := below_then B4 h6
  clear m0 m1 m2 m3
  obtain ⟨f0, f1, f2, f3⟩ := box4T hf6
  obtain ⟨p0, p1, p2, p3⟩ := box4T l6
  haveI t6 : T w6 := T.below B6
  have HW6 := Lib.hid hw6
  have H6 := Lib.hid (And.intro r6 (And.intro n6 (And.intro B6 hs4)))
  clear h5 hw6 ha6 h6 hf6 l6 r6 n6 B6 l4 r4 hn4 B4
  go_upto_region 5 with fail
  rw [HW6.out]
  have H7 := H6
  obtain ⟨r6, n6, B6, hs6⟩ := H7.out
  obtain ⟨y0, y1, y2, y3⟩ := box4T n6
  obtain ⟨q0, q1, q2, q3⟩ := box4T r6
  have u0 := heap_free r6 0
  have u1 := heap_free r6 1
  have u2 := heap_free r6 2
  have u3 := heap_free r6 3
  have v1 := heap_free n6 1
  have hne : w.heap.size + 1 ≠ w3.heap.size := by omega
  have hne2 : w3.heap.size ≠ w.heap.size + 1 := by omega
  clear r6 n6 B6
  go_wp2
  obtain ⟨r6, n6, B6, hs6⟩ := H7.out
  have r7 := (Below.heap_setCell w6 ⟨w3.heap.size, 1, none⟩ (sV v) (w.heap.size + 1) hne).trans r6
  obtain ⟨z1, z2, z3⟩ := set4P (N := w.heap.size) r7 (by omega) rfl
  refine bodyPost_ret (v := .agg #[intV kk, sV v, intV 0, .slice none 0 0]) ?_ rfl ⟨rfl, (B6.setCell (p := ⟨w3.heap.size, 1, none⟩) (by show w.heap.size ≤ w3.heap.size; omega) _).trans z3⟩
  obtain ⟨a0, a1, a2, a3⟩ := heap4P z1
  simp [results, Tryz.f69, go_sem, a0, a1, a2, a3]
  try rfl
end Go.Proofs.YtmfcepfagbkceaaGreatDoor
namespace Go.Proofs.YtmfcepfagbkceaaGreatDoor
set_option linter.unusedSimpArgs false
set_option linter.unusedVariables false
set_option maxRecDepth 100000
open Go.RowKit Go.Shelf Go.Deep
theorem good_isTag {k : Int} {n v : Bs} (h : goodT k n v = true) : isTag n = true := by
  unfold goodT at h
  cases hn : isTag n
  · rw [hn] at h; simp at h
  · rfl
theorem kOf_range {n : Bs} (hn : isTag n = true) : 2 ≤ kOf n ∧ kOf n ≤ 11 := by
  unfold isTag tagsL at hn
  simp only [List.contains_cons, List.contains_nil, Bool.or_false, Bool.or_eq_true, beq_iff_eq] at hn
  rcases hn with rfl | rfl | rfl | rfl | rfl | rfl | rfl | rfl | rfl | rfl <;> decide
theorem atoi_rng (v : Bs) (h : Lib.itoa (atoiV v) = v) (hr : -9223372036854775808 ≤ atoiV v ∧ atoiV v ≤ 9223372036854775807) : Lib.atoiAll v = .ok (atoiV v) := by
  have := atoi_itoa hr
  rwa [h] at this
set_option maxHeartbeats 1000000 in
theorem nodeOfT_any (x : Lx) (hk : x.k = 2 ∨ x.k = 4) (hx : goodT x.k x.n x.v = true) (hv : x.v.length ≤ 65536) (w : World) [T w] :
    Calls Tryz.prog 69 #[.agg #[intV x.k, sV x.n, sV x.v, intV x.o]] w fun e w' => e = .returned (.agg #[intV (nodeX x []).kd, sV (nodeX x []).tx, intV (nodeX x []).nm, .slice none 0 0]) ∧ Below w.heap.size w w' := by
  obtain ⟨k, n, v, o⟩ := x
  have hk : k = 2 ∨ k = 4 := hk
  have hx : goodT k n v = true := hx
  have hv : v.length ≤ 65536 := hv
  have hk1 : (k == 1) = false := by rw [beq_eq_false_iff_ne]; omega
  have hne : ¬ k = 1 := by omega
  have htag := good_isTag hx
  have hval : valX (kOf n) (if textsK (kOf n) then v else []) (if numsK (kOf n) then atoiV v else 0) = v := by
    rcases hk with rfl | rfl
    · exact (good_open hx).2.2.2
    · exact (good_empty hx).2.2.2
  have hkind := fun W => kindOfT_any n htag W
  have hr := kOf_range htag
  have hnode : nodeX ⟨k, n, v, o⟩ [] = .mk (kOf n) (if textsK (kOf n) then v else []) (if numsK (kOf n) then atoiV v else 0) [] := by
    unfold nodeX
    rw [if_neg (show ¬ (Lx.k ⟨k, n, v, o⟩) = 1 from hne)]
  rw [hnode]
  show Calls _ _ #[.agg #[intV k, sV n, sV v, intV o]] w fun e w' => e = .returned (.agg #[intV (kOf n), sV (if textsK (kOf n) then v else []), intV (if numsK (kOf n) then atoiV v else 0), .slice none 0 0]) ∧ _
  obtain ⟨kk, hkk⟩ : ∃ kk, kOf n = kk := ⟨_, rfl⟩
  rw [hkk] at hval hkind hr
  rw [hkk]
  clear hnode hx htag hkk hk
  have hks : kk = 2 ∨ kk = 3 ∨ kk = 4 ∨ kk = 5 ∨ kk = 6 ∨ kk = 7 ∨ kk = 8 ∨ kk = 9 ∨ kk = 10 ∨ kk = 11 := by omega
  have hrg : -9223372036854775808 ≤ atoiV v ∧ atoiV v ≤ 9223372036854775807 := by
    unfold atoiV
    split
    · rename_i m hm
      exact Lib.atoiAll_bounds hm
    · omega
  rcases hks with rfl | rfl | rfl | rfl | rfl | rfl | rfl | rfl | rfl | rfl
  · obtain rfl : v = [] := hval.symm
    exact nodeOf_txt_nil k hk1 n [] o 2 tLb 0 rfl false w hkind formOf_2
  · exact nodeOf_txt_fn k hk1 n v o 3 tPb _ 0 rfl false w hkind formOf_3
  · exact nodeOf_txt_fn k hk1 n v o 4 tSec _ 0 rfl false w hkind formOf_4
  · obtain rfl : v = [] := hval.symm
    exact nodeOf_txt_nil k hk1 n [] o 5 tV 0 rfl false w hkind formOf_5
  · exact nodeOf_num_nil k hk1 n v o 6 tGap 64 rfl false (atoiV v) (atoi_rng v hval hrg) (by omega) w hkind formOf_6
  · obtain rfl : v = [] := hval.symm
    exact nodeOf_txt_nil k hk1 n [] o 7 tUn 0 rfl true w hkind formOf_7
  · exact nodeOf_num_nil k hk1 n v o 8 tAdd 8 rfl true (atoiV v) (atoi_rng v hval hrg) (by omega) w hkind formOf_8
  · exact nodeOf_num_nil k hk1 n v o 9 tDel 8 rfl true (atoiV v) (atoi_rng v hval hrg) (by omega) w hkind formOf_9
  · exact nodeOf_txt_fn k hk1 n v o 10 tAb _ 0 rfl true w hkind formOf_10
  · exact nodeOf_txt_fn k hk1 n v o 11 tName _ 0 rfl true w hkind formOf_11
end Go.Proofs.YtmfcepfagbkceaaGreatDoor
namespace Go.Proofs.YtmfcepfagbkceaaGreatDoor
set_option linter.unusedSimpArgs false
set_option linter.unusedVariables false
set_option maxRecDepth 100000
open Go.RowKit Go.Deep
def CsOf (W : World) (P : Nat → Prop) : List Value → List Nd → Prop
  | cs, [] => cs = []
  | cs, x :: l => ∃ s rest, cs = intV x.kd :: sV x.tx :: intV x.nm :: s :: rest ∧ VAt W P (.agg #[intV x.kd, sV x.tx, intV x.nm, s]) x ∧ CsOf W P rest l
theorem CsOf.len {W : World} {P : Nat → Prop} : ∀ {l : List Nd} {cs : List Value}, CsOf W P cs l → cs.length = l.length * 4
  | [], cs, h => by rw [CsOf] at h; subst h; rfl
  | x :: l, cs, h => by
    rw [CsOf] at h
    obtain ⟨s, rest, rfl, _, h⟩ := h
    have := CsOf.len h
    simp; omega
theorem CsOf.app {W : World} {P : Nat → Prop} : ∀ {l l' : List Nd} {cs cs' : List Value}, CsOf W P cs l → CsOf W P cs' l' → CsOf W P (cs ++ cs') (l ++ l')
  | [], l', cs, cs', h, h' => by rw [CsOf] at h; subst h; exact h'
  | x :: l, l', cs, cs', h, h' => by
    rw [CsOf] at h
    obtain ⟨s, rest, rfl, hv, h⟩ := h
    exact ⟨s, rest ++ cs', rfl, hv, CsOf.app h h'⟩
theorem CsOf.keep {W W' : World} {P : Nat → Prop} (hk : ∀ b, P b → b < W.heap.size → W'.heap[b]? = W.heap[b]?) (hs : W.heap.size ≤ W'.heap.size) : ∀ {l : List Nd} {cs : List Value}, CsOf W P cs l → CsOf W' P cs l
  | [], cs, h => by rw [CsOf] at h ⊢; exact h
  | x :: l, cs, h => by
    rw [CsOf] at h ⊢
    obtain ⟨s, rest, e, hv, h⟩ := h
    exact ⟨s, rest, e, hv.keep hk hs, CsOf.keep hk hs h⟩
theorem CsOf.mono {W : World} {P P' : Nat → Prop} (hP : ∀ b, b < W.heap.size → P b → P' b) : ∀ {l : List Nd} {cs : List Value}, CsOf W P cs l → CsOf W P' cs l
  | [], cs, h => by rw [CsOf] at h ⊢; exact h
  | x :: l, cs, h => by
    rw [CsOf] at h ⊢
    obtain ⟨s, rest, e, hv, h⟩ := h
    exact ⟨s, rest, e, (vat_mono hP).1 x _ hv, CsOf.mono hP h⟩
theorem CsOf.one {W : World} {P : Nat → Prop} : ∀ {l : List Nd} {cs : List Value}, CsOf W P cs l → ∀ u ∈ cs, u.oneCell' = true
  | [], cs, h, u, hu => by rw [CsOf] at h; subst h; cases hu
  | x :: l, cs, h, u, hu => by
    rw [CsOf] at h
    obtain ⟨s, rest, rfl, hv, h⟩ := h
    obtain ⟨a, c, rfl⟩ := vat_slice hv
    simp only [List.mem_cons] at hu
    rcases hu with rfl | rfl | rfl | rfl | hu
    · rfl
    · rfl
    · rfl
    · rfl
    · exact CsOf.one h u hu
theorem cs_of_its {W : World} {P : Nat → Prop} {b : Nat} : ∀ {l : List Nd} {off : Nat}, ItsAt W P b off l → ∃ cs, CsOf W P cs l ∧ ∀ j u, cs[j]? = some u → W.cell? ⟨b, off + j, none⟩ = some u
  | [], off, _ => ⟨[], by rw [CsOf], fun j u h => by simp at h⟩
  | x :: l, off, h => by
    rw [ItsAt] at h
    obtain ⟨⟨s, h0, h1, h2, h3, hv⟩, h⟩ := h
    obtain ⟨cs, hc, hcs⟩ := cs_of_its h
    refine ⟨_ :: _ :: _ :: s :: cs, by rw [CsOf]; exact ⟨s, cs, rfl, hv, hc⟩, fun j u hj => ?_⟩
    match j, hj with
    | 0, hj => simp at hj; subst hj; exact h0
    | 1, hj => simp at hj; subst hj; exact h1
    | 2, hj => simp at hj; subst hj; exact h2
    | 3, hj => simp at hj; subst hj; exact h3
    | j + 4, hj =>
      have := hcs j u (by simpa using hj)
      rwa [show off + 4 + j = off + (j + 4) by omega] at this
theorem its_of_cs {W : World} {P : Nat → Prop} {b : Nat} : ∀ {l : List Nd} {cs : List Value} {off : Nat}, CsOf W P cs l → (∀ j u, cs[j]? = some u → W.cell? ⟨b, off + j, none⟩ = some u) → ItsAt W P b off l
  | [], cs, off, _, _ => by rw [ItsAt]; trivial
  | x :: l, cs, off, h, hcs => by
    rw [CsOf] at h
    obtain ⟨s, rest, rfl, hv, h⟩ := h
    rw [ItsAt]
    refine ⟨⟨s, hcs 0 _ rfl, hcs 1 _ rfl, hcs 2 _ rfl, hcs 3 _ rfl, hv⟩, its_of_cs h fun j u hj => ?_⟩
    have := hcs (j + 4) u (by simpa using hj)
    rwa [show off + (j + 4) = off + 4 + j by omega] at this
theorem vs_of_own {W : World} {P : Nat → Prop} {base : Nat} {e : TypeId} {v : Value} {l : List Nd} {cs : List Value} (h : W.ownsRow base e 4 v l.length cs) (hc : CsOf W P cs l) (hP : ∀ k, v.ownBlock = some k → P k) : VsAt W P v l := by
  rcases h.2 with ⟨rfl, hn⟩ | ⟨g, cap, cur, rfl, _⟩
  · refine ⟨none, 0, by rw [hn], fun h0 => absurd h0 (by omega)⟩
  · refine ⟨some ⟨g, 0, none⟩, cap, rfl, fun h0 => ⟨g, 0, rfl, hP g rfl, (h.lt g rfl).2, its_of_cs hc fun j u hj => ?_⟩⟩
    have := h.cells (g := g) rfl j u hj
    rwa [add_plainT] at this
def Src (W : World) (P : Nat → Prop) (v : Value) (l : List Nd) : Prop := ∃ (a : Option Addr) (c : Nat) (cs : List Value), v = .slice a l.length c ∧ CsOf W P cs l ∧ (∀ p, a = some p → ∀ j u, cs[j]? = some u → W.cell? (p.add j) = some u) ∧ (a = none → l = [])
theorem src_of_vs {W : World} {P : Nat → Prop} {v : Value} {l : List Nd} (h : VsAt W P v l) : Src W P v l := by
  obtain ⟨a, c, rfl, hc⟩ := h
  cases a with
  | none =>
    have hl : l = [] := by
      cases l with
      | nil => rfl
      | cons x l => obtain ⟨_, _, h, _⟩ := hc (by simp); cases h
    subst hl
    exact ⟨none, c, [], rfl, by rw [CsOf], fun p e => (nomatch e), fun _ => rfl⟩
  | some p =>
    by_cases h0 : 0 < l.length
    · obtain ⟨b, off, e, _, _, hi⟩ := hc h0
      cases e
      obtain ⟨cs, h1, h2⟩ := cs_of_its hi
      exact ⟨_, c, cs, rfl, h1, fun p e j u hj => by cases e; rw [add_plainT]; exact h2 j u hj, fun e => (nomatch e)⟩
    · obtain rfl : l = [] := List.eq_nil_of_length_eq_zero (by omega)
      exact ⟨_, c, [], rfl, by rw [CsOf], fun p e j u hj => by simp at hj, fun e => (nomatch e)⟩
theorem src_of_own {W : World} {P : Nat → Prop} {base : Nat} {e : TypeId} {v : Value} {l : List Nd} {cs : List Value} (h : W.ownsRow base e 4 v l.length cs) (hc : CsOf W P cs l) : Src W P v l := by
  rcases h.2 with ⟨rfl, hn⟩ | ⟨g, cap, cur, rfl, _⟩
  · have hl : l = [] := List.eq_nil_of_length_eq_zero hn
    subst hl
    exact ⟨none, 0, cs, rfl, hc, fun p e => (nomatch e), fun _ => rfl⟩
  · exact ⟨_, cap, cs, rfl, hc, fun p e j u hj => by cases e; exact h.cells (g := g) rfl j u hj, fun e => (nomatch e)⟩
theorem Src.below {W W' : World} {P : Nat → Prop} {v : Value} {l : List Nd} (h : Src W P v l) (hb : Below W.heap.size W W') : Src W' P v l := by
  obtain ⟨a, c, cs, rfl, h1, h2, h3⟩ := h
  exact ⟨a, c, cs, rfl, h1.keep (fun b _ hlt => hb.block b hlt) hb.size, fun p e j u hj => by
    have h4 := h2 p e j u hj
    exact (World.cell?_of_block (hb.block _ (World.block_lt_of_cell? W _ h4))).trans h4, h3⟩
theorem Src.mono {W : World} {P P' : Nat → Prop} {v : Value} {l : List Nd} (h : Src W P v l) (hP : ∀ b, b < W.heap.size → P b → P' b) : Src W P' v l := by
  obtain ⟨a, c, cs, rfl, h1, h2, h3⟩ := h
  exact ⟨a, c, cs, rfl, h1.mono hP, h2, h3⟩
end Go.Proofs.YtmfcepfagbkceaaGreatDoor
namespace Go.Proofs.YtmfcepfagbkceaaGreatDoor
set_option linter.unusedSimpArgs false
set_option linter.unusedVariables false
set_option maxRecDepth 100000
open Go.RowKit Go.Deep
def cellsF : List (Int × Bs × Int) → List Value → List Value
  | (k, t, n) :: hd, s :: sl => intV k :: sV t :: intV n :: s :: cellsF hd sl
  | _, _ => []
theorem cellsF_len : ∀ (hd : List (Int × Bs × Int)) (sl : List Value), hd.length = sl.length → (cellsF hd sl).length = hd.length * 4
  | [], [], _ => rfl
  | (k, t, n) :: hd, s :: sl, h => by
    have := cellsF_len hd sl (by simpa using h)
    rw [cellsF]; simp; omega
theorem cellsF_snoc : ∀ (hd : List (Int × Bs × Int)) (sl : List Value) (k : Int) (t : Bs) (n : Int) (s : Value), hd.length = sl.length → cellsF (hd ++ [(k, t, n)]) (sl ++ [s]) = cellsF hd sl ++ [intV k, sV t, intV n, s]
  | [], [], k, t, n, s, _ => rfl
  | (k', t', n') :: hd, s' :: sl, k, t, n, s, h => by
    rw [List.cons_append, List.cons_append, cellsF, cellsF, cellsF_snoc hd sl k t n s (by simpa using h)]
    rfl
theorem row_pre {W : World} {B : Nat} {e : TypeId} {size g n cap : Nat} {xs ys : List Value} (h : W.ownsRow B e size (.slice (some ⟨g, 0, none⟩) (n + 1) cap) (n + 1) (xs ++ ys)) (hx : xs.length = n * size) : W.ownsRow B e size (.slice (some ⟨g, 0, none⟩) n cap) n xs := by
  refine ⟨hx, .inr ?_⟩
  rcases h.2 with ⟨h0, _⟩ | ⟨g', cap', cur, e', hb, hg, hn, hc, hs, ht⟩
  · cases h0
  · cases e'
    refine ⟨_, _, cur, rfl, hb, hg, by omega, hc, hs, ?_⟩
    have := congrArg (List.take (n * size)) ht
    rw [List.take_take, Nat.min_eq_left (Nat.mul_le_mul_right _ (by omega)), List.take_left' hx] at this
    exact this
structure TOp (W : World) (B : Nat) (P : Nat → Prop) (v : Value) (hd : List (Int × Bs × Int)) (sl : List Value) (ls : List (List Nd)) : Prop where
  lh : hd.length = ls.length
  len : sl.length = ls.length
  own : W.ownsRow B nT 4 v ls.length (cellsF hd sl)
  row : ∀ (i : Nat) (s : Value) (l : List Nd), sl[i]? = some s → ls[i]? = some l → ∃ cs, W.ownsRow B nT 4 s l.length cs ∧ CsOf W P cs l
  ne : ∀ (i j : Nat) (s s' : Value) (b : Nat), sl[i]? = some s → sl[j]? = some s' → s.ownBlock = some b → s'.ownBlock = some b → i = j
  av : ∀ (i : Nat) (s : Value) (b : Nat), sl[i]? = some s → s.ownBlock = some b → ¬ P b ∧ v.ownBlock ≠ some b
  hv : ∀ b, v.ownBlock = some b → ¬ P b
  lo : ∀ b, P b → B ≤ b
  top : ∀ b, W.heap.size ≤ b → P b
theorem TOp.row_lt {W : World} {B : Nat} {P : Nat → Prop} {v : Value} {hd : List (Int × Bs × Int)} {sl : List Value} {ls : List (List Nd)} (h : TOp W B P v hd sl ls) {i : Nat} {s : Value} (hs : sl[i]? = some s) {b : Nat} (hb : s.ownBlock = some b) : b < W.heap.size := by
  have hl := h.len
  have hi : i < sl.length := (List.getElem?_eq_some_iff.1 hs).1
  obtain ⟨cs, ho, _⟩ := h.row i s ls[i] hs (List.getElem?_eq_getElem (by omega))
  exact (ho.lt b hb).2
theorem TOp.below {W W' : World} {B : Nat} {P : Nat → Prop} {v : Value} {hd : List (Int × Bs × Int)} {sl : List Value} {ls : List (List Nd)} (h : TOp W B P v hd sl ls) (hb : Below W.heap.size W W') : TOp W' B P v hd sl ls :=
  ⟨h.lh, h.len, own_keepT h.own fun g hg => hb.block g (h.own.lt g hg).2, fun i s l h1 h2 => by
      obtain ⟨cs, ho, hc⟩ := h.row i s l h1 h2
      exact ⟨cs, own_keepT ho fun g hg => hb.block g (ho.lt g hg).2, hc.keep (fun b _ hlt => hb.block b hlt) hb.size⟩,
    h.ne, h.av, h.hv, h.lo, fun b hl => h.top b (Nat.le_trans hb.size hl)⟩
theorem TOp.push {W W' : World} {B : Nat} {P : Nat → Prop} {v v' : Value} {hd : List (Int × Bs × Int)} {h0 : Int × Bs × Int} {sl : List Value} {ls : List (List Nd)} (h : TOp W B P v hd sl ls)
    (ho : W'.ownsRow B nT 4 v' (ls.length + 1) (cellsF (hd ++ [h0]) (sl ++ [.slice none 0 0]))) (hs : W.heap.size ≤ W'.heap.size) (hk : ∀ k, k < W.heap.size → some k ≠ v.ownBlock → W'.heap[k]? = W.heap[k]?)
    (hf : v'.ownBlock = v.ownBlock ∨ v'.ownBlock = some W.heap.size) : TOp W' B (fun b => P b ∧ v'.ownBlock ≠ some b) v' (hd ++ [h0]) (sl ++ [.slice none 0 0]) (ls ++ [[]]) := by
  have hlen := h.len
  have hfr : ∀ b, b < W.heap.size → v'.ownBlock = some b → v.ownBlock = some b := fun b hlt hb => by
    rcases hf with hf | hf
    · rw [← hf]; exact hb
    · rw [hf] at hb; injection hb with hb; omega
  have get : ∀ i s, (sl ++ [Value.slice none 0 0])[i]? = some s → (sl[i]? = some s ∧ i < sl.length) ∨ (s = .slice none 0 0 ∧ i = sl.length) := fun i s hi => by
    rcases Nat.lt_or_ge i sl.length with hlt | hge
    · rw [List.getElem?_append_left hlt] at hi; exact .inl ⟨hi, hlt⟩
    · rw [List.getElem?_append_right hge] at hi
      obtain ⟨h1, h2⟩ := List.getElem?_eq_some_iff.1 hi
      simp at h1
      have e : i - sl.length = 0 := by omega
      simp [e] at h2
      exact .inr ⟨h2.symm, by omega⟩
  refine ⟨by simp [h.lh], by simp [h.len], by simpa using ho, fun i s l h1 h2 => ?_, fun i j s s' b h1 h2 h3 h4 => ?_, fun i s b h1 h2 => ?_, fun b hb hp => hp.2 hb, fun b hp => h.lo b hp.1, fun b hb => ⟨h.top b (by omega), fun e => by have := (ho.lt b e).2; omega⟩⟩
  · rcases get i s h1 with ⟨h1, hi⟩ | ⟨rfl, rfl⟩
    · rw [List.getElem?_append_left (by omega)] at h2
      obtain ⟨cs, ho', hc⟩ := h.row i s l h1 h2
      refine ⟨cs, own_keepT ho' fun g hg => hk g (ho'.lt g hg).2 (fun e => (h.av i s g h1 hg).2 e.symm), ?_⟩
      refine (hc.mono (P' := fun b => P b ∧ v'.ownBlock ≠ some b) fun b hlt hp => ⟨hp, fun e => h.hv b (hfr b hlt e) hp⟩).keep (fun b hp hlt => hk b hlt (fun e => h.hv b e.symm hp.1)) hs
    · rw [List.getElem?_append_right (by omega), show sl.length - ls.length = 0 by omega] at h2
      simp at h2
      subst h2
      exact ⟨[], World.ownsRow_nil _ _ _ _, by rw [CsOf]⟩
  · rcases get i s h1 with ⟨h1, hi⟩ | ⟨rfl, rfl⟩
    · rcases get j s' h2 with ⟨h2, hj⟩ | ⟨rfl, rfl⟩
      · exact h.ne i j s s' b h1 h2 h3 h4
      · cases h4
    · cases h3
  · rcases get i s h1 with ⟨h1, hi⟩ | ⟨rfl, rfl⟩
    · exact ⟨fun hp => (h.av i s b h1 h2).1 hp.1, fun e => (h.av i s b h1 h2).2 (hfr b (h.row_lt h1 h2) e)⟩
    · cases h2
theorem TOp.pop {W : World} {B : Nat} {P : Nat → Prop} {g n cap : Nat} {hd : List (Int × Bs × Int)} {h0 : Int × Bs × Int} {sl : List Value} {s : Value} {ls : List (List Nd)} {l : List Nd} (h : TOp W B P (.slice (some ⟨g, 0, none⟩) (n + 1) cap) (hd ++ [h0]) (sl ++ [s]) (ls ++ [l])) (hn : ls.length = n) :
    TOp W B (fun b => P b ∨ s.ownBlock = some b) (.slice (some ⟨g, 0, none⟩) n cap) hd sl ls ∧ VsAt W (fun b => P b ∨ s.ownBlock = some b) s l := by
  have hlen := h.len
  have hlh := h.lh
  simp at hlen hlh
  have ho := h.own
  rw [List.length_append, hn] at ho
  obtain ⟨k, t, m⟩ := h0
  rw [cellsF_snoc hd sl k t m s (by omega)] at ho
  have hlast : (sl ++ [s])[sl.length]? = some s := by simp
  obtain ⟨cs, hos, hcs⟩ := h.row sl.length s l hlast (by rw [hlen]; simp)
  have left : ∀ {i : Nat} {u : Value}, sl[i]? = some u → (sl ++ [s])[i]? = some u := fun h1 => by rw [List.getElem?_append_left (List.getElem?_eq_some_iff.1 h1).1]; exact h1
  refine ⟨⟨by omega, by omega, by rw [hn]; exact row_pre ho (by rw [cellsF_len _ _ (by omega)]; omega), fun i s' l' h1 h2 => ?_, fun i j s1 s2 b h1 h2 => h.ne i j s1 s2 b (left h1) (left h2), fun i s1 b h1 h2 => ⟨?_, (h.av i s1 b (left h1) h2).2⟩, fun b hb hp => ?_, fun b hp => ?_, fun b hb => .inl (h.top b hb)⟩, ?_⟩
  · obtain ⟨cs', ho', hc'⟩ := h.row i s' l' (left h1) (by rw [List.getElem?_append_left (List.getElem?_eq_some_iff.1 h2).1]; exact h2)
    exact ⟨cs', ho', hc'.mono fun b _ hp => .inl hp⟩
  · rintro (hp | hp)
    · exact (h.av i s1 b (left h1) h2).1 hp
    · have := h.ne i _ s1 s b (left h1) hlast h2 hp
      have := (List.getElem?_eq_some_iff.1 h1).1
      omega
  · rcases hp with hp | hp
    · exact h.hv b hb hp
    · exact (h.av _ s b hlast hp).2 hb
  · rcases hp with hp | hp
    · exact h.lo b hp
    · exact (hos.lt b hp).1
  · exact vs_of_own hos (hcs.mono fun b _ hp => .inl hp) (fun k e => .inr e)
theorem TOp.last {W : World} {B : Nat} {P : Nat → Prop} {v : Value} {hd : List (Int × Bs × Int)} {sl : List Value} {s : Value} {ls : List (List Nd)} {l : List Nd} {h0 : Int × Bs × Int} (h : TOp W B P v (hd ++ [h0]) (sl ++ [s]) (ls ++ [l])) :
    ∃ cs, W.ownsRow B nT 4 s l.length cs ∧ CsOf W P cs l := by
  have hlen := h.len
  simp at hlen
  exact h.row sl.length s l (by simp) (by rw [hlen]; simp)
theorem TOp.add {W W' : World} {B : Nat} {P : Nat → Prop} {v : Value} {hd : List (Int × Bs × Int)} {sl : List Value} {s s' : Value} {ls : List (List Nd)} {l : List Nd} {x : Nd} {cs' : List Value} {h0 : Int × Bs × Int} (h : TOp W B P v (hd ++ [h0]) (sl ++ [s]) (ls ++ [l]))
    (hov : W'.ownsRow B nT 4 v (ls.length + 1) (cellsF (hd ++ [h0]) (sl ++ [s']))) (hos : W'.ownsRow B nT 4 s' (l.length + 1) cs') (hcs : CsOf W P cs' (l ++ [x])) (hs : W.heap.size ≤ W'.heap.size)
    (hk : ∀ k, k < W.heap.size → some k ≠ v.ownBlock → some k ≠ s.ownBlock → W'.heap[k]? = W.heap[k]?) (hf : s'.ownBlock = s.ownBlock ∨ ∃ g, s'.ownBlock = some g ∧ W.heap.size ≤ g) :
    TOp W' B (fun b => P b ∧ s'.ownBlock ≠ some b) v (hd ++ [h0]) (sl ++ [s']) (ls ++ [l ++ [x]]) := by
  have hlen := h.len
  simp at hlen
  have hlast : (sl ++ [s])[sl.length]? = some s := by simp
  have hfr : ∀ b, b < W.heap.size → s'.ownBlock = some b → s.ownBlock = some b := fun b hlt hb => by
    rcases hf with hf | ⟨g, hf, hg⟩
    · rw [← hf]; exact hb
    · rw [hf] at hb; injection hb with hb; omega
  have get : ∀ i u, (sl ++ [s'])[i]? = some u → (((sl ++ [s])[i]? = some u ∧ i < sl.length) ∨ (u = s' ∧ i = sl.length)) := fun i u hi => by
    rcases Nat.lt_or_ge i sl.length with hlt | hge
    · rw [List.getElem?_append_left hlt] at hi; exact .inl ⟨by rw [List.getElem?_append_left hlt]; exact hi, hlt⟩
    · rw [List.getElem?_append_right hge] at hi
      obtain ⟨h1, h2⟩ := List.getElem?_eq_some_iff.1 hi
      simp at h1
      have e : i - sl.length = 0 := by omega
      simp [e] at h2
      exact .inr ⟨h2.symm, by omega⟩
  have hkeep : ∀ b, P b → b < W.heap.size → W'.heap[b]? = W.heap[b]? := fun b hp hlt => hk b hlt (fun e => h.hv b e.symm hp) (fun e => (h.av _ s b hlast e.symm).1 hp)
  have hmono : ∀ b, b < W.heap.size → P b → P b ∧ s'.ownBlock ≠ some b := fun b hlt hp => ⟨hp, fun e => (h.av _ s b hlast (hfr b hlt e)).1 hp⟩
  refine ⟨by have := h.lh; simpa using this, by simpa using hlen, by simpa using hov, fun i u l' h1 h2 => ?_, fun i j s1 s2 b h1 h2 h3 h4 => ?_, fun i u b h1 h2 => ?_, fun b hb hp => h.hv b hb hp.1, fun b hp => h.lo b hp.1, fun b hb => ⟨h.top b (by omega), fun e => by have := (hos.lt b e).2; omega⟩⟩
  · rcases get i u h1 with ⟨h1, hi⟩ | ⟨rfl, rfl⟩
    · rw [List.getElem?_append_left (by omega)] at h2
      obtain ⟨c, ho', hc⟩ := h.row i u l' h1 (by rw [List.getElem?_append_left (by omega)]; exact h2)
      refine ⟨c, own_keepT ho' fun g hg => hk g (ho'.lt g hg).2 (fun e => (h.av i u g h1 hg).2 e.symm) (fun e => ?_), (hc.mono hmono).keep (fun b hp hlt => hkeep b hp.1 hlt) hs⟩
      have := h.ne i _ u s g h1 hlast hg e.symm
      omega
    · rw [List.getElem?_append_right (by omega), show sl.length - ls.length = 0 by omega] at h2
      simp at h2
      subst h2
      exact ⟨cs', by simpa using hos, (hcs.mono hmono).keep (fun b hp hlt => hkeep b hp.1 hlt) hs⟩
  · rcases get i s1 h1 with ⟨g1, hi⟩ | ⟨e1, e1'⟩
    · rcases get j s2 h2 with ⟨g2, hj⟩ | ⟨e2, e2'⟩
      · exact h.ne i j s1 s2 b g1 g2 h3 h4
      · rw [e2] at h4
        rw [e2']
        exact h.ne i _ s1 s b g1 hlast h3 (hfr b (h.row_lt g1 h3) h4)
    · rcases get j s2 h2 with ⟨g2, hj⟩ | ⟨e2, e2'⟩
      · rw [e1] at h3
        rw [e1']
        exact h.ne _ j s s2 b hlast g2 (hfr b (h.row_lt g2 h4) h3) h4
      · rw [e1', e2']
  · rcases get i u h1 with ⟨h1, hi⟩ | ⟨rfl, rfl⟩
    · exact ⟨fun hp => (h.av i u b h1 h2).1 hp.1, (h.av i u b h1 h2).2⟩
    · refine ⟨fun hp => hp.2 h2, fun e => ?_⟩
      rcases hf with hf | ⟨g, hf, hg⟩
      · exact (h.av _ s b hlast (by rw [← hf]; exact h2)).2 e
      · rw [hf] at h2; injection h2 with h2
        have := (h.own.lt b e).2
        omega
end Go.Proofs.YtmfcepfagbkceaaGreatDoor
namespace Go.Proofs.YtmfcepfagbkceaaGreatDoor
set_option linter.unusedSimpArgs false
set_option linter.unusedVariables false
set_option maxRecDepth 100000
open Go.RowKit Go.Deep
theorem set_part (xs : List Value) (n : Nat) (h : xs.length = n * 4) (c0 c1 c2 c3 u : Value) : (xs ++ [c0, c1, c2, c3]).set (n * 4 + 3) u = xs ++ [c0, c1, c2, u] := by
  rw [← h, List.set_append_right _ _ (by omega)]
  simp
theorem top_add {W w6 W3 : World} {B g n cap g2 m cap2 : Nat} {P : Nat → Prop} {hd : List (Int × Bs × Int)} {k : Int} {t : Bs} {z : Int} {sl : List Value} {s : Value} {ls : List (List Nd)} {l : List Nd} {y : Nd} {ya : Option Addr} {ym yc : Nat}
    (h : TOp W B P (.slice (some ⟨g, 0, none⟩) (n + 1) cap) (hd ++ [(k, t, z)]) (sl ++ [s]) (ls ++ [l])) (hn : hd.length = n) (hm : l.length = m) {cs : List Value} (hcs : CsOf W P cs l)
    (hy : VAt W P (.agg #[intV y.kd, sV y.tx, intV y.nm, .slice ya ym yc]) y)
    (hown : w6.ownsRow B nT 4 (.slice (some ⟨g2, 0, none⟩) (m + 1) cap2) (m + 1) (cs ++ z4)) (hgrow : W.grownBy w6 s.ownBlock) (hat : s.ownBlock = some g2 ∨ W.heap.size ≤ g2)
    (hW : (((((w6.setCell ⟨g2, m * 4, none⟩ (intV y.kd)).setCell ⟨g2, m * 4 + 1, none⟩ (sV y.tx)).setCell ⟨g2, m * 4 + 2, none⟩ (intV y.nm)).setCell ⟨g2, m * 4 + 3, none⟩ (.slice ya ym yc)).setCell ⟨g, n * 4 + 3, none⟩ (.slice (some ⟨g2, 0, none⟩) (m + 1) cap2)) = W3 ∨
      (((((w6.setCell ⟨g, n * 4 + 3, none⟩ (.slice (some ⟨g2, 0, none⟩) (m + 1) cap2)).setCell ⟨g2, m * 4, none⟩ (intV y.kd)).setCell ⟨g2, m * 4 + 1, none⟩ (sV y.tx)).setCell ⟨g2, m * 4 + 2, none⟩ (intV y.nm)).setCell ⟨g2, m * 4 + 3, none⟩ (.slice ya ym yc)) = W3) :
    TOp W3 B (fun b => P b ∧ some g2 ≠ some b) (.slice (some ⟨g, 0, none⟩) (n + 1) cap) (hd ++ [(k, t, z)]) (sl ++ [.slice (some ⟨g2, 0, none⟩) (m + 1) cap2]) (ls ++ [l ++ [y]]) ∧ Below B W W3 := by
  have hlen := h.len
  have hlh := h.lh
  simp at hlen hlh
  have hlast : (sl ++ [s])[sl.length]? = some s := by simp
  obtain ⟨cs0, hos0, _⟩ := h.row sl.length s l hlast (by rw [hlen]; simp)
  have hgB : B ≤ g ∧ g < W.heap.size := h.own.lt g rfl
  have hg2B : B ≤ g2 := (hown.lt g2 rfl).1
  have hgg : g ≠ g2 := fun e => by
    rcases hat with ha | ha
    · exact (h.av _ s g2 hlast ha).2 (by rw [← e]; rfl)
    · omega
  have hgg' : g2 ≠ g := fun e => hgg e.symm
  have hnv : (some g : Option Nat) ≠ s.ownBlock := fun e => (h.av _ s g hlast e.symm).2 rfl
  have hv6 : w6.ownsRow B nT 4 (.slice (some ⟨g, 0, none⟩) (n + 1) cap) (ls ++ [l]).length (cellsF (hd ++ [(k, t, z)]) (sl ++ [s])) := own_keepT h.own fun b e => by
    have : g = b := by simpa [Value.ownBlock] using e
    subst this
    exact hgrow.block g hgB.2 hnv
  rw [cellsF_snoc hd sl k t z s (by omega), show (ls ++ [l]).length = n + 1 by simp; omega] at hv6
  have hcl : (cellsF hd sl).length = n * 4 := by rw [cellsF_len _ _ (by omega), hn]
  have hlc : cs.length = m * 4 := by rw [hcs.len, hm]
  have hX : Below B W w6 := (Below.refl _ _).grown hgrow (by omega) (fun b e => (hos0.lt b e).1)
  have hcs' : CsOf W P (cs ++ [intV y.kd, sV y.tx, intV y.nm, .slice ya ym yc]) (l ++ [y]) := hcs.app (by rw [CsOf]; exact ⟨_, [], rfl, hy, by rw [CsOf]⟩)
  have key : W3.ownsRow B nT 4 (.slice (some ⟨g, 0, none⟩) (n + 1) cap) (n + 1) (cellsF hd sl ++ [intV k, sV t, intV z, .slice (some ⟨g2, 0, none⟩) (m + 1) cap2]) ∧ W3.ownsRow B nT 4 (.slice (some ⟨g2, 0, none⟩) (m + 1) cap2) (m + 1) (cs ++ [intV y.kd, sV y.tx, intV y.nm, .slice ya ym yc]) ∧
      (∀ b, b < W.heap.size → b ≠ g → b ≠ g2 → some b ≠ s.ownBlock → W3.heap[b]? = W.heap[b]?) ∧ Below B W W3 := by
    rcases hW with rfl | rfl
    · have e1 := set4_row (a0 := intV y.kd) (a1 := sV y.tx) (a2 := intV y.nm) (a3 := .slice ya ym yc) hown hlc
      have e2 : ((((w6.setCell ⟨g2, m * 4, none⟩ (intV y.kd)).setCell ⟨g2, m * 4 + 1, none⟩ (sV y.tx)).setCell ⟨g2, m * 4 + 2, none⟩ (intV y.nm)).setCell ⟨g2, m * 4 + 3, none⟩ (.slice ya ym yc)).ownsRow B nT 4 (.slice (some ⟨g, 0, none⟩) (n + 1) cap) (n + 1) (cellsF hd sl ++ [intV k, sV t, intV z, s]) := own_keepT hv6 fun b e => by
        have : g = b := by simpa [Value.ownBlock] using e
        subst this
        exact set4_other hgg
      have e3 := (e2.stored (n * 4 + 3) (.slice (some ⟨g2, 0, none⟩) (m + 1) cap2)).1
      rw [set_part _ n hcl] at e3
      refine ⟨e3, own_keepT e1 fun b e => ?_, fun b hb h1 h2 h3 => ?_, (hX.trans (set4_below hg2B)).setCell (p := ⟨g, n * 4 + 3, none⟩) hgB.1 _⟩
      · have : g2 = b := by simpa [Value.ownBlock] using e
        subst this
        exact Below.heap_setCell _ _ _ _ hgg'
      · rw [Below.heap_setCell _ _ _ _ h1, set4_other h2]
        exact hgrow.block b hb h3
    · have e2 := (hv6.stored (n * 4 + 3) (.slice (some ⟨g2, 0, none⟩) (m + 1) cap2)).1
      rw [set_part _ n hcl] at e2
      have e1 : (w6.setCell ⟨g, n * 4 + 3, none⟩ (.slice (some ⟨g2, 0, none⟩) (m + 1) cap2)).ownsRow B nT 4 (.slice (some ⟨g2, 0, none⟩) (m + 1) cap2) (m + 1) (cs ++ z4) := own_keepT hown fun b e => by
        have : g2 = b := by simpa [Value.ownBlock] using e
        subst this
        exact Below.heap_setCell _ _ _ _ hgg'
      refine ⟨own_keepT e2 fun b e => ?_, set4_row e1 hlc, fun b hb h1 h2 h3 => ?_, (hX.setCell (p := ⟨g, n * 4 + 3, none⟩) hgB.1 _).trans (set4_below hg2B)⟩
      · have : g = b := by simpa [Value.ownBlock] using e
        subst this
        exact set4_other hgg
      · rw [set4_other h2, Below.heap_setCell _ _ _ _ h1]
        exact hgrow.block b hb h3
  obtain ⟨k1, k2, k3, k4⟩ := key
  refine ⟨?_, k4⟩
  refine TOp.add (s' := .slice (some ⟨g2, 0, none⟩) (m + 1) cap2) h (by rw [cellsF_snoc hd sl k t z _ (by omega), show ls.length + 1 = n + 1 by omega]; exact k1) (by rw [hm]; exact k2) hcs' k4.size (fun b hb h1 h2 => ?_) ?_
  · have hbg : b ≠ g := fun e => h1 (by rw [e]; rfl)
    refine k3 b hb hbg (fun e => ?_) h2
    rcases hat with ha | ha
    · exact h2 (by rw [e, ha])
    · omega
  · rcases hat with ha | ha
    · exact .inl ha.symm
    · exact .inr ⟨g2, rfl, ha⟩
end Go.Proofs.YtmfcepfagbkceaaGreatDoor
namespace Go.Proofs.YtmfcepfagbkceaaGreatDoor
set_option linter.unusedSimpArgs false
set_option linter.unusedVariables false
set_option maxRecDepth 100000
open Go.RowKit Go.Deep
theorem TOp.old {W : World} {B : Nat} {P : Nat → Prop} {v : Value} {hd : List (Int × Bs × Int)} {sl : List Value} {ls : List (List Nd)} (h : TOp W B P v hd sl ls) : (∀ b, v.ownBlock = some b → b < W.heap.size) ∧ ∀ (i : Nat) (s : Value) (b : Nat), sl[i]? = some s → s.ownBlock = some b → b < W.heap.size :=
  ⟨fun b hb => (h.own.lt b hb).2, fun i s b hs hb => h.row_lt hs hb⟩
theorem TOp.fresh {W W' : World} {B D : Nat} {P : Nat → Prop} {v : Value} {hd : List (Int × Bs × Int)} {sl : List Value} {ls : List (List Nd)} (h : TOp W B P v hd sl ls) (hb : Below W.heap.size W W') (hD : W.heap.size ≤ D) (hs : D < W'.heap.size) : TOp W' B (fun b => P b ∧ b ≠ D) v hd sl ls :=
  ⟨h.lh, h.len, own_keepT h.own fun g hg => hb.block g (h.own.lt g hg).2, fun i s l h1 h2 => by
      obtain ⟨cs, ho, hc⟩ := h.row i s l h1 h2
      exact ⟨cs, own_keepT ho fun g hg => hb.block g (ho.lt g hg).2, (hc.mono (P' := fun b => P b ∧ b ≠ D) (fun b hlt hp => ⟨hp, by omega⟩)).keep (fun b _ hlt => hb.block b hlt) hb.size⟩,
    h.ne, fun i s b h1 h2 => ⟨fun hp => (h.av i s b h1 h2).1 hp.1, (h.av i s b h1 h2).2⟩, fun b hb' hp => h.hv b hb' hp.1, fun b hp => h.lo b hp.1, fun b hl => ⟨h.top b (by omega), by omega⟩⟩
theorem TOp.upd {W W' : World} {B D : Nat} {P : Nat → Prop} {v : Value} {hd : List (Int × Bs × Int)} {sl : List Value} {ls : List (List Nd)} (h : TOp W B P v hd sl ls) (hk : ∀ k, k ≠ D → W'.heap[k]? = W.heap[k]?) (hs : W'.heap.size = W.heap.size) (hP : ¬ P D)
    (hv : v.ownBlock ≠ some D) (hr : ∀ (i : Nat) (s : Value), sl[i]? = some s → s.ownBlock ≠ some D) : TOp W' B P v hd sl ls :=
  ⟨h.lh, h.len, own_keepT h.own fun g hg => hk g (fun e => hv (by rw [← e]; exact hg)), fun i s l h1 h2 => by
      obtain ⟨cs, ho, hc⟩ := h.row i s l h1 h2
      exact ⟨cs, own_keepT ho fun g hg => hk g (fun e => hr i s h1 (by rw [← e]; exact hg)), hc.keep (fun b hp _ => hk b (fun e => hP (by rw [← e]; exact hp))) (by omega)⟩,
    h.ne, h.av, h.hv, h.lo, fun b hl => h.top b (by omega)⟩
def HdB (h : Int × Bs × Int) : Prop := -9223372036854775808 ≤ h.2.2 ∧ h.2.2 ≤ 9223372036854775807 ∧ h.2.1.length ≤ 65536
theorem atoiV_rng (v : Bs) : -9223372036854775808 ≤ atoiV v ∧ atoiV v ≤ 9223372036854775807 := by
  unfold atoiV
  split
  · rename_i m hm
    exact Lib.atoiAll_bounds hm
  · omega
theorem hdX_B (x : Lx) (h : x.v.length ≤ 65536) : HdB (hdX x) := by
  unfold HdB hdX nodeX
  have := atoiV_rng x.v
  by_cases hk : x.k = 1
  · simp only [if_pos hk]
    exact ⟨by show _ ≤ (0 : Int); omega, by show (0 : Int) ≤ _; omega, h⟩
  · simp only [if_neg hk]
    refine ⟨?_, ?_, ?_⟩
    · show _ ≤ (if numsK (kOf x.n) then atoiV x.v else 0); split <;> omega
    · show (if numsK (kOf x.n) then atoiV x.v else 0) ≤ _; split <;> omega
    · show (if textsK (kOf x.n) then x.v else []).length ≤ _; split
      · exact h
      · simp
theorem vat_hd {W : World} {P : Nat → Prop} {h : Int × Bs × Int} {l : List Nd} {s : Value} (hB : HdB h) (hl : l.length ≤ 65536) (hv : VsAt W P s l) : VAt W P (.agg #[intV h.1, sV h.2.1, intV h.2.2, s]) (mkH h l) :=
  vat_mk hB.1 hB.2.1 (by have := hB.2.2; omega) (by omega) hv
theorem TOp.start (W : World) (B : Nat) (hB : B ≤ W.heap.size) : TOp (W.alloc (.cells z4.toArray nT)) B (fun b => B ≤ b ∧ W.heap.size ≠ b) (.slice (some ⟨W.heap.size, 0, none⟩) (0 + 1) 1) [(0, [], 0)] [.slice none 0 0] [[]] := by
  refine ⟨rfl, rfl, ⟨rfl, .inr ⟨_, _, z4.toArray, rfl, hB, World.alloc_heap_new _ _, by decide, by unfold maxLen; omega, by decide, rfl⟩⟩, fun i s l h1 h2 => ?_, fun i j s s' b h1 h2 h3 h4 => ?_, fun i s b h1 h2 => ?_, fun b hb hp => ?_, fun b hp => hp.1, fun b hb => ?_⟩
  · match i, h1, h2 with
    | 0, h1, h2 =>
      simp at h1 h2
      subst h1 h2
      exact ⟨[], World.ownsRow_nil _ _ _ _, by rw [CsOf]⟩
  · match i, h1 with
    | 0, h1 => simp at h1; subst h1; cases h3
  · match i, h1 with
    | 0, h1 => simp at h1; subst h1; cases h2
  · have : W.heap.size = b := by simpa [Value.ownBlock] using hb
    exact hp.2 this
  · simp at hb
    exact ⟨by omega, by omega⟩
theorem TOp.topc {W : World} {B g n cap : Nat} {P : Nat → Prop} {hd : List (Int × Bs × Int)} {k : Int} {t : Bs} {z : Int} {sl : List Value} {s : Value} {ls : List (List Nd)}
    (h : TOp W B P (.slice (some ⟨g, 0, none⟩) (n + 1) cap) (hd ++ [(k, t, z)]) (sl ++ [s]) ls) (hn : hd.length = n) (hsl : sl.length = n) :
    (W.cell? ⟨g, n * 4, none⟩ = some (intV k) ∧ W.cell? ⟨g, n * 4 + 1, none⟩ = some (sV t) ∧ W.cell? ⟨g, n * 4 + 2, none⟩ = some (intV z) ∧ W.cell? ⟨g, n * 4 + 3, none⟩ = some s) ∧ ∀ o, W.frozen? ⟨g, o, none⟩ = false := by
  have ho := h.own
  have hlh := h.lh
  simp at hlh
  rw [cellsF_snoc hd sl k t z s (by omega), show ls.length = n + 1 by omega] at ho
  have hl : (cellsF hd sl).length = n * 4 := by rw [cellsF_len _ _ (by omega), hn]
  have hc : ∀ (i : Nat) (u : Value), [intV k, sV t, intV z, s][i]? = some u → W.cell? ⟨g, n * 4 + i, none⟩ = some u := fun i u hi => by
    have := ho.cells (g := g) rfl (n * 4 + i) u (by rw [List.getElem?_append_right (by omega), show n * 4 + i - (cellsF hd sl).length = i by omega]; exact hi)
    rwa [add_plainT, Nat.zero_add] at this
  exact ⟨⟨hc 0 _ rfl, hc 1 _ rfl, hc 2 _ rfl, hc 3 _ rfl⟩, fun o => ho.frozenAt o⟩
theorem snoc_of {α : Type} {l : List α} {n : Nat} (h : l.length = n + 1) : ∃ a x, l = a ++ [x] ∧ a.length = n := by
  refine ⟨l.dropLast, l.getLast (by intro e; subst e; simp at h), (List.dropLast_concat_getLast _).symm, by simp [h]⟩
end Go.Proofs.YtmfcepfagbkceaaGreatDoor
