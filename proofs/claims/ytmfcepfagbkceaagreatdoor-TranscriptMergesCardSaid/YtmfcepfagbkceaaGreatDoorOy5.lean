/- Stage 10 (transcript): TpRuns, put together by merge10.py. -/
import Derived.Test.YtmfcepfagbkceaaGreatDoorOp
import Derived.Test.YtmfcepfagbkceaaGreatDoorOy2
import Derived.Test.YtmfcepfagbkceaaGreatDoorOy4
import Derived.Test.YtmfcepfagbkceaaGreatDoorOy
namespace Go.Proofs.YtmfcepfagbkceaaGreatDoor
set_option linter.unusedSimpArgs false
set_option linter.unusedVariables false
set_option maxRecDepth 100000
open Go.RowKit Go.Shelf Go.Deep
attribute [local go_sem] Oper.semAt_some wide_fnT
theorem tw_more {α : Type} (p : α → Bool) : ∀ (l : List α) (e : Nat) (h : e < l.length), e ≤ (l.takeWhile p).length → p l[e] = true → e + 1 ≤ (l.takeWhile p).length
  | x :: l, 0, _, _, hp => by
    rw [List.takeWhile_cons, if_pos (show p x = true from hp), List.length_cons]; omega
  | x :: l, e + 1, h, he, hp => by
    rw [List.takeWhile_cons] at he ⊢
    split at he
    · rename_i hx
      rw [if_pos hx, List.length_cons] at *
      have := tw_more p l e (by simpa using h) (by omega) hp
      omega
    · simp at he
theorem tw_stop {α : Type} (p : α → Bool) : ∀ (l : List α) (e : Nat) (h : e < l.length), e ≤ (l.takeWhile p).length → p l[e] = false → (l.takeWhile p).length = e
  | x :: l, 0, _, _, hp => by
    rw [List.takeWhile_cons, if_neg (by rw [show p x = false from hp]; simp)]; rfl
  | x :: l, e + 1, h, he, hp => by
    rw [List.takeWhile_cons] at he ⊢
    split at he
    · rename_i hx
      rw [if_pos hx, List.length_cons] at *
      have := tw_stop p l e (by simpa using h) (by omega) hp
      omega
    · simp at he
theorem run_more {F : List Nd} {e : Nat} (h0 : 0 < F.length) (h1 : F[0].kd = 1) (he : e < F.length) (hr : e ≤ runLen F) (h1e : 1 ≤ e) (hx : F[e].kd = 1) : e + 1 ≤ runLen F := by
  cases F with
  | nil => simp at h0
  | cons x l =>
    have hx1 : x.kd = 1 := h1
    obtain ⟨d, rfl⟩ : ∃ d, e = d + 1 := ⟨e - 1, by omega⟩
    rw [runLen, if_pos hx1] at hr ⊢
    have := tw_more txB l d (by simpa using he) (by omega) (by unfold txB; simpa using hx)
    omega
theorem run_stop {F : List Nd} {e : Nat} (h0 : 0 < F.length) (h1 : F[0].kd = 1) (he : e < F.length) (hr : e ≤ runLen F) (h1e : 1 ≤ e) (hx : F[e].kd ≠ 1) : runLen F = e := by
  cases F with
  | nil => simp at h0
  | cons x l =>
    have hx1 : x.kd = 1 := h1
    obtain ⟨d, rfl⟩ : ∃ d, e = d + 1 := ⟨e - 1, by omega⟩
    rw [runLen, if_pos hx1] at hr ⊢
    have := tw_stop txB l d (by simpa using he) (by omega) (by unfold txB; simpa using hx)
    omega
theorem run_single {F : List Nd} {e : Nat} (h0 : 0 < F.length) (h1 : F[0].kd ≠ 1) (hr : e ≤ runLen F) (h1e : 1 ≤ e) : runLen F = e := by
  cases F with
  | nil => simp at h0
  | cons x l =>
    have hx1 : ¬ x.kd = 1 := h1
    rw [runLen, if_neg hx1] at hr ⊢
    omega
def lenV : Value → Nat
  | .slice _ n _ => n
  | _ => 0
def CloneP (A : Nat) (L : List Nd) (w : World) (e : Ending) (w' : World) : Prop := ∃ u cs, e = .returned u ∧ w'.ownsRow w.heap.size nT 4 u L.length cs ∧ CsOf w' (fun b => b < A) cs L ∧ Below w.heap.size w w'
set_option maxHeartbeats 1000000 in
theorem cloneP_any (A : Nat) (L : List Nd) (hl : L.length ≤ 100000) (v : Value) (w : World) (hA : A ≤ w.heap.size) (hv : VsAt w (fun b => b < A) v L) :
    Calls Tryz.prog 87 #[v] w (CloneP A L w) := by
  obtain ⟨i0, hi, hz0, hz1, hz2⟩ := info_parts info_nd
  obtain ⟨a, c, cs, rfl, hcs, hcell, hnone⟩ := src_of_vs hv
  have HCS := Lib.hid hcs
  have HCE := Lib.hid hcell
  cases a with
  | none =>
    obtain rfl : L = [] := hnone rfl
    clear hv hcs hcell
    have hnil : ∀ W, Sem.run Tryz.prog (binOp .eql 24 (.slice none 0 c) (.slice none 0 0)) W = .ok (.bool true) W := fun W => Lib.run_eql_slice_nil W 24 42 _ _ _ 0 0 Tryz.underlying24
    go_enter Tryz.func87, Tryz.ntmps87
    go_wp2
    go_ret
    exact ⟨_, [], rfl, World.ownsRow_nil _ _ _ _, by rw [CsOf], Below.refl _ _⟩
  | some p =>
    have HROW := Lib.hid (World.ownsRow_lit (base := w.heap.size) (e := nT) (size := 4) w #[] 0 (Nat.le_refl _) (Nat.zero_le _) rfl)
    have HM := Lib.hid (fun j u (hj : cs[j]? = some u) => by
      have h1 := hcell p rfl j u hj
      exact ((alloc_below w (.cells #[] nT)).cell (World.block_lt_of_cell? w _ h1)).trans h1)
    have hnil : ∀ W, Sem.run Tryz.prog (binOp .eql 24 (.slice (some p) L.length c) (.slice none 0 0)) W = .ok (.bool false) W := fun W => Lib.run_eql_slice_nil W 24 42 _ _ _ 0 0 Tryz.underlying24
    have HLN := Lib.hid hcs.len
    have HON := Lib.hid hcs.one
    clear hv hcs hcell hnone
    go_enter Tryz.func87, Tryz.ntmps87
    go_wp2_with (at_builtin; refine wpList_append_nd rfl _ _ 24 rfl w.heap.size nT i0 _ 56 Tryz.underlying24 hi hz0 hz1 hz2 (by rfl) _ 0 [] (by rfl) HROW.out (some p) c L.length cs (by rfl) (fun q hq => by cases hq; exact HM.out) HLN.out HON.out (fun h => by cases h) (by omega) (by decide) (by simp) ?_)
    intro v' w1 hown hgrow
    have hB1 : Below w.heap.size w w1 := ((Below.refl _ w).alloc (Nat.le_refl _) _).grown hgrow (by simp) (fun k hk => (HROW.out.lt k hk).1)
    have HOWN := Lib.hid hown
    have HC := Lib.hid (HCS.out.keep (fun b hb _ => hB1.block b (by have hb : b < A := hb; omega)) hB1.size)
    clear hown hgrow
    go_wp2
    go_ret
    exact ⟨_, cs, rfl, by simpa using HOWN.out, HC.out, hB1⟩
theorem runs_any (a : Option Addr) (n c : Nat) (w : World) :
    Calls Tryz.prog 61 #[.slice a n c] w fun e w' => e = .returned (.func (.func 85) #[] #[.pointer (some ⟨w.heap.size, 0, none⟩)]) ∧ w' = w.alloc (.cells #[.slice a n c] lT (0, 0)) := by
  go_enter Tryz.func61, Tryz.ntmps61
  go_wp2
  go_ret
  exact ⟨rfl, rfl⟩
structure Rn (L : List Nd) where
  g : Nat
  k : Nat
  e : Nat
  c : Nat
  he : 1 ≤ e
  hk : k + e ≤ (fltL L).length
def Rn.run {L : List Nd} (p : Rn L) : List Nd := ((fltL L).drop p.k).take p.e
abbrev encR {L : List Nd} (p : Rn L) : Array Value := #[.slice (some ⟨p.g, p.k * 4, none⟩) p.e p.c]
def RowG (A : Nat) (F : List Nd) (g : Nat) (cs : List Value) (W : World) : Prop := ∃ cur, W.heap[g]? = some (.cells cur nT (0, 0)) ∧ cur.toList.take (F.length * 4) = cs ∧ CsOf W (fun b => b < A) cs F
def OkR (A : Nat) {L : List Nd} (p : Rn L) (W : World) : Prop := ∃ cs, RowG A (fltL L) p.g cs W
theorem RowG.below {A : Nat} {F : List Nd} {g : Nat} {cs : List Value} {W W' : World} (h : RowG A F g cs W) (hb : Below W.heap.size W W') : RowG A F g cs W' := by
  obtain ⟨cur, h1, h2, h3⟩ := h
  exact ⟨cur, (hb.block g (heap_ltT h1)).trans h1, h2, h3.keep (fun b _ hlt => hb.block b hlt) hb.size⟩
theorem RowG.at {A : Nat} {F : List Nd} {g : Nat} {cs : List Value} {W : World} (h : RowG A F g cs W) {i : Nat} (hi : i < F.length) :
    ∃ sa sc, W.cell? ⟨g, i * 4, none⟩ = some (intV F[i].kd) ∧ W.cell? ⟨g, i * 4 + 1, none⟩ = some (sV F[i].tx) ∧ W.cell? ⟨g, i * 4 + 2, none⟩ = some (intV F[i].nm) ∧ W.cell? ⟨g, i * 4 + 3, none⟩ = some (.slice sa F[i].ps.length sc) ∧ VAt W (fun b => b < A) (.agg #[intV F[i].kd, sV F[i].tx, intV F[i].nm, .slice sa F[i].ps.length sc]) F[i] := by
  obtain ⟨cur, h1, h2, h3⟩ := h
  obtain ⟨s, g0, g1, g2, g3, hv⟩ := h3.get hi
  obtain ⟨sa, sc, rfl⟩ := vat_slice hv
  have hc : ∀ j u, cs[j]? = some u → W.cell? ⟨g, j, none⟩ = some u := fun j u hj => by
    rw [← h2, List.getElem?_take] at hj
    split at hj
    · unfold World.cell?
      rw [show W.heap[(⟨g, j, none⟩ : Addr).block]? = _ from h1]
      simpa using hj
    · cases hj
  exact ⟨sa, sc, hc _ _ g0, hc _ _ g1, hc _ _ g2, hc _ _ g3, hv⟩
structure RI (A M : Nat) (r : Option Nat) (L : List Nd) (g : Nat) (cs : List Value) (k : Nat) (pre : List (Rn L)) (J : List (Rn L) → World → Prop) (wr : World) : Prop where
  rs : pre.map Rn.run ++ runsL ((fltL L).drop k) = runsL (fltL L)
  ln : pre.length ≤ k
  j : J pre wr
  row : 0 < (fltL L).length → RowG A (fltL L) g cs wr ∧ ¬ ownN r wr g ∧ M ≤ g
theorem RI.below {A M : Nat} {r : Option Nat} {L : List Nd} {g : Nat} {cs : List Value} {k : Nat} {pre : List (Rn L)} {J : List (Rn L) → World → Prop} {wr W : World} (h : RI A M r L g cs k pre J wr) (hJ : ∀ s A C, J s A → A.grownBy C none → J s C)
    (hr : ∀ R, r = some R → R < wr.heap.size) (hb : Below wr.heap.size wr W) : RI A M r L g cs k pre J W :=
  ⟨h.rs, h.ln, hJ _ _ _ h.j (below_grownT hb), fun h0 => by
    obtain ⟨h1, h2, h3⟩ := h.row h0
    refine ⟨h1.below hb, fun ⟨R, e, n, c, hc⟩ => h2 ⟨R, e, n, c, ?_⟩, h3⟩
    rw [← hc]
    exact (hb.cell (p := ⟨R, 0, none⟩) (hr R e)).symm⟩
theorem RI.next {A M : Nat} {r : Option Nat} {L : List Nd} {g : Nat} {cs : List Value} {k e : Nat} {pre : List (Rn L)} {J : List (Rn L) → World → Prop} {wr W : World} (h : RI A M r L g cs k pre J wr) (p : Rn L) (hp : p.run = ((fltL L).drop k).take e) (he : runLen ((fltL L).drop k) = e) (h1 : 1 ≤ e) (hn : k < (fltL L).length)
    (hJ : J (pre ++ [p]) W) (hk : KpN A M r wr W) : RI A M r L g cs (k + e) (pre ++ [p]) J W := by
  refine ⟨?_, by rw [List.length_append]; have := h.ln; simp; omega, hJ, fun h0 => ?_⟩
  · rw [← h.rs, runsL_cons (l := (fltL L).drop k) (fun e => by have := congrArg List.length e; rw [List.length_drop] at this; simp at this; omega), he, List.drop_drop, List.map_append, List.append_assoc, List.map_cons, List.map_nil, hp]
    rfl
  · obtain ⟨⟨cur, h1, h2, h3⟩, h4, h5⟩ := h.row h0
    obtain ⟨k1, k2⟩ := hk.keepBox h5 h4 h1
    exact ⟨⟨cur, k1, h2, h3.keep (fun b hb _ => hk.below.block b hb) hk.below.size⟩, k2, h5⟩
set_option maxHeartbeats 16000000 in
theorem runs1_in (w0 : World) (P : Nat → Prop) (L : List Nd) (v : Value) (hv : VsAt w0 P v L) (hl : L.length ≤ 100000) (M : Nat) (r : Option Nat) (B l : Nat) (J : List (Rn L) → World → Prop) (hJ : ∀ s A C, J s A → A.grownBy C none → J s C)
    (hG : ∀ s W, J s W → GN w0.heap.size M r W)
    (hY : ∀ m' pre p W, J pre W → OkR w0.heap.size p W → pre.length < L.length + 1 → YieldAt Fence.wide m' Tryz.prog l (encR p) W fun e W' => e = .returned (.bool true) ∧ J (pre ++ [p]) W' ∧ KpN w0.heap.size M r W W')
    (W : World) (hW : Below w0.heap.size w0 W) (hB : W.heap[B]? = some (.cells #[v] lT (0, 0))) (h0 : J [] W) :
    CallsIn Fence.wide 8 Tryz.prog 85 #[.func (.yield l) #[] #[], .pointer (some ⟨B, 0, none⟩)] W fun e W' => (∃ v, e = .returned v) ∧ ∃ ys : List (Rn L), ys.map Rn.run = runsL (fltL L) ∧ J ys W' := by
  obtain ⟨A, hA⟩ : ∃ A, w0.heap.size = A := ⟨_, rfl⟩
  obtain ⟨a, c, rfl⟩ := (show ∃ a c, v = .slice a L.length c from by obtain ⟨a, c, h, _⟩ := hv; exact ⟨a, c, h⟩)
  have bc := box1T hB
  have hg := hG _ _ h0
  have hvW : VsAt W (fun b => b < A) (.slice a L.length c) L := (hv.mono (P' := fun b => b < A) (fun b hb _ => by show b < A; omega)).below hW
  rw [hA] at hG hY hg
  have hAW : A ≤ W.heap.size := by rw [← hA]; exact hW.size
  have HCL := Lib.hid (cloneP_any A L hl _ W hAW hvW)
  have hrW : ∀ R, r = some R → R < W.heap.size := fun R e => Nat.lt_of_lt_of_le (hg.row R e) hg.size
  have HRW := Lib.hid hrW
  have HDL := Lib.hid (fun u cs1 w1 (ho : w1.ownsRow W.heap.size nT 4 u L.length cs1) (hc : CsOf w1 (fun b => b < A) cs1 L) (hb : W.heap.size ≤ w1.heap.size) => delete_any A W.heap.size hAW L cs1 u w1 ho hc hb hl)
  have HJ0 := Lib.hid h0
  have HJ := Lib.hid hJ
  have HY := Lib.hid hY
  have HG := Lib.hid hg
  have hdd : ∀ k : Nat, (Fence.wide.depth.isSome = true → 1 ≤ k) := fun k h => by cases h
  have hfl : (fltL L).length ≤ L.length := List.length_filter_le _ _
  clear hY hJ hg h0 hB hvW hv hW hA hG hrW
  refine callsIn_of_wp Tryz.func85 rfl trivial ?_ rfl
  simp only [Tryz.ntmps85, List.size_toArray, List.length_cons, List.length_nil, Nat.reduceAdd, Nat.reduceSub, Array.replicate_succ, Array.replicate_zero, List.push_toArray, List.append_toArray, List.nil_append, List.cons_append]
  gi_wp2_with fail
  refine (callsIn_wide.2 HCL.out).mono ?_
  rintro e w1 ⟨u, cs1, rfl, ho1, hc1, hb1⟩
  obtain ⟨ua, uc, rfl⟩ : ∃ ua uc, u = .slice ua L.length uc := by
    rcases ho1.2 with ⟨rfl, h⟩ | ⟨g, cap, cur, rfl, _⟩
    · exact ⟨none, 0, by rw [h]⟩
    · exact ⟨_, _, rfl⟩
  have HD1 := Lib.hid (HDL.out _ _ _ ho1 hc1 hb1.size)
  have HB1 := Lib.hid hb1
  clear ho1 hc1 hb1 HDL HCL bc
  gi_wp2_with fail
  refine (callsIn_wide.2 HD1.out).mono ?_
  rintro e w2 ⟨u2, cs, rfl, ho2, hc2, hb2⟩
  have hb2W : Below W.heap.size W w2 := HB1.out.trans hb2
  obtain ⟨n, hn⟩ : ∃ n, (fltL L).length = n := ⟨_, rfl⟩
  have HN := Lib.hid hn
  rw [hn] at ho2 hfl
  obtain ⟨g, ad, cv, hcv, rfl, hrow⟩ : ∃ g ad cv, n ≤ cv ∧ u2 = .slice ad n cv ∧ (0 < n → ad = some ⟨g, 0 * 4, none⟩ ∧ RowG A (fltL L) g cs w2 ∧ ¬ ownN r w2 g ∧ M ≤ g) := by
    rcases ho2.2 with ⟨rfl, h⟩ | ⟨g, cap, cur, rfl, hgB, hgr, hcap, _, _, htk⟩
    · exact ⟨0, none, 0, by omega, by rw [h], fun h2 => by omega⟩
    · refine ⟨g, _, cap, hcap, rfl, fun _ => ⟨rfl, ⟨cur, hgr, by rw [hn]; exact htk, hc2⟩, fun ⟨R, e, n', c', hc'⟩ => ?_, Nat.le_trans HG.out.size hgB⟩⟩
      have h1 : ownN r W g := ⟨R, e, n', c', by rw [← hc']; exact (hb2W.cell (p := ⟨R, 0, none⟩) (HRW.out R e)).symm⟩
      have := HG.out.own g h1
      omega
  have HRI := Lib.hid (show RI A M r L g cs 0 [] J w2 from ⟨by rw [List.drop_zero]; rfl, Nat.le_refl _, HJ.out _ _ _ HJ0.out (below_grownT hb2W), fun h => (hrow (by rw [← hn]; exact h)).2⟩)
  have HAD := Lib.hid (fun h => (hrow h).1)
  have hs2 := hb2W.size
  have HRW2 := Lib.hid (show ∀ R, r = some R → R < M from HG.out.row)
  have HMW := Lib.hid (show M ≤ w2.heap.size from Nat.le_trans HG.out.size hs2)
  clear ho2 hc2 hb2 hb2W hrow hn HD1 HB1 HJ0 HG
  gi_wp2
  gi_loopw [3] (fun sv wr => ∃ (k m : Nat) (ad : Option Addr) (cv : Nat) (pre : List (Rn L)), m ≤ n ∧ m ≤ cv ∧ sv = .slice ad m cv ∧ Hid (k + m = n) ∧ Hid (0 < m → ad = some ⟨g, k * 4, none⟩) ∧ Hid (M ≤ wr.heap.size) ∧ Hid (RI A M r L g cs k pre J wr)) (fun sv _ => lenV sv)
  case atStart => exact ⟨0, n, ad, cv, [], Nat.le_refl _, hcv, rfl, Lib.hid (Nat.zero_add _), HAD, HMW, HRI⟩
  case round =>
    clear HRI HAD HMW hcv hs2
    obtain ⟨k, m, ad, cv, pre, hmn, hcv, rfl, HKM, HAD, HMW, HRI⟩ := hrel
    obtain ⟨wk, rfl⟩ : ∃ x, x = wr := ⟨_, rfl⟩
    by_cases hm : 0 < m
    · obtain rfl := HAD.out hm
      have hkn : k + m = n := HKM.out
      have HKN := Lib.hid (show k < (fltL L).length by rw [HN.out]; omega)
      have q0 : decide ((0 : Int) < (m : Int)) = true := decide_eq_true (by omega)
      have q0' : (0 : Int) < (m : Int) := by omega
      have HROW := Lib.hid ((HRI.out.row (by rw [HN.out]; omega)).1)
      have HFL := Lib.hid (show ((fltL L).drop k).length = m by rw [List.length_drop, HN.out]; omega)
      have HRL := Lib.hid (show 1 ≤ runLen ((fltL L).drop k) from runLen_pos (fun e => by have h1 := congrArg List.length e; rw [HFL.out] at h1; simp at h1; omega))
      obtain ⟨x, hx⟩ : ∃ x, (fltL L)[k]'HKN.out = x := ⟨_, rfl⟩
      obtain ⟨sa, sc, c0, c1, c2, c3, _⟩ := HROW.out.at HKN.out
      rw [hx] at c0 c1 c2 c3
      obtain ⟨xk, hxk⟩ : ∃ z, x.kd = z := ⟨_, rfl⟩
      obtain ⟨xt, hxt⟩ : ∃ z, x.tx = z := ⟨_, rfl⟩
      obtain ⟨xn, hxn⟩ : ∃ z, x.nm = z := ⟨_, rfl⟩
      obtain ⟨xl, hxl⟩ : ∃ z, x.ps.length = z := ⟨_, rfl⟩
      rw [hxk] at c0
      rw [hxt] at c1
      rw [hxn] at c2
      rw [hxl] at c3
      have HX0 := Lib.hid (show (((fltL L).drop k)[0]'(by rw [HFL.out]; exact hm)).kd = xk by rw [List.getElem_drop]; simp only [Nat.add_zero]; rw [hx, hxk])
      have HC0 := Lib.hid (And.intro c0 (And.intro c1 (And.intro c2 c3)))
      clear hkn c0 c1 c2 c3 hx hxk hxt hxn hxl
      gi_wp2
      gi_loopw [4] (fun ev wr => ∃ e : Nat, 1 ≤ e ∧ e ≤ m ∧ ev = .int .i64 e ∧ Hid (e ≤ runLen ((fltL L).drop k)) ∧ Below wk.heap.size wk wr) (fun ev _ => m - (intOf ev).toNat)
      case atStart => exact ⟨1, Nat.le_refl _, hm, rfl, HRL, Below.refl _ _⟩
      case round =>
        obtain ⟨e, he1, hem, rfl, HE, hB⟩ := hrel
        obtain ⟨wq, rfl⟩ : ∃ x, x = wr := ⟨_, rfl⟩
        have HB := Lib.hid hB
        obtain ⟨c0, c1, c2, c3⟩ := HC0.out
        have hgl := cellT_lt c0
        have d0 := (hB.cell (p := ⟨g, k * 4, none⟩) hgl).trans c0
        have d1 := (hB.cell (p := ⟨g, k * 4 + 1, none⟩) hgl).trans c1
        have d2 := (hB.cell (p := ⟨g, k * 4 + 2, none⟩) hgl).trans c2
        have d3 := (hB.cell (p := ⟨g, k * 4 + 3, none⟩) hgl).trans c3
        obtain ⟨b0, hb0⟩ : ∃ b, (xk == 1) = b := ⟨_, rfl⟩
        have HT := Lib.hid (fun W => isText_any xk xt xn (.slice sa xl sc) b0 hb0 W)
        have HB0 := Lib.hid hb0
        have e0 : (0 : Int) ≤ (e : Int) := by omega
        have e1 : (e : Int) ≤ (m : Int) := by omega
        have e2 : (e : Int) ≤ (cv : Int) := by omega
        clear c0 c1 c2 c3 hB hb0
        gi_wp2_with fail
        refine (callsIn_wide.2 (HT.out _)).mono ?_
        rintro e' wa ⟨rfl, ha⟩
        have HBA := Lib.hid (below_then HB.out ha)
        clear ha d0 d1 d2 d3 HT
        cases b0
        ·
          have HEE := Lib.hid (show runLen ((fltL L).drop k) = e from run_single (by rw [HFL.out]; exact hm) (by rw [HX0.out]; simpa using HB0.out) HE.out he1)
          have HRA := Lib.hid (HRI.out.below HJ.out (fun R e => Nat.lt_of_lt_of_le (HRW2.out R e) HMW.out) HBA.out)
          have hsa := HBA.out.size
          obtain ⟨p, hp1, hp2, hp3, hp4⟩ : ∃ p : Rn L, p.g = g ∧ p.k = k ∧ p.e = e ∧ p.c = cv := ⟨⟨g, k, e, cv, he1, by have := HKM.out; rw [HN.out]; omega⟩, rfl, rfl, rfl, rfl⟩
          have HP := Lib.hid (show p.run = ((fltL L).drop k).take e by unfold Rn.run; rw [hp2, hp3])
          obtain ⟨fn, tmps, assign, body, hy, hR⟩ := HY.out (8 - 1) pre p wa HRA.out.j ⟨cs, by rw [hp1]; exact (HRA.out.row (by rw [HN.out]; omega)).1⟩ (by have h1 := HRA.out.ln; have h2 := HKM.out; omega)
          simp only [encR, hp1, hp2, hp3, hp4] at hy
          clear hp1 hp2 hp3 hp4
          gi_wp2
          refine hR.mono ?_
          rintro e' W2 ⟨rfl, hJ2, hk2⟩
          have HNX := Lib.hid (HRA.out.next p HP.out HEE.out he1 HKN.out hJ2 hk2)
          have HMX := Lib.hid (show M ≤ W2.heap.size by have := hk2.below.size; have := HMW.out; omega)
          have HKX := Lib.hid (show (k + e) + (m - e) = n by have := HKM.out; omega)
          clear hJ2 hk2 hy hR
          gi_wp2
          refine ⟨⟨k + e, m - e, _, cv - e, _, by omega, by omega, rfl, HKX, Lib.hid (fun h => by rw [if_neg (by omega), show (k + e) * 4 = k * 4 + e * 4 by omega]), HMX, HNX⟩, ?_⟩
          simp [lenV]
          omega
        · by_cases hlt : e < m
          · obtain ⟨sa2, sc2, c0, c1, c2, c3, _⟩ := (HROW.out.below HBA.out).at (show k + e < (fltL L).length by have := HKM.out; rw [HN.out]; omega)
            obtain ⟨y, hy⟩ : ∃ y, (fltL L)[k + e]'(by have := HKM.out; rw [HN.out]; omega) = y := ⟨_, rfl⟩
            rw [hy] at c0 c1 c2 c3
            obtain ⟨yk, hyk⟩ : ∃ z, y.kd = z := ⟨_, rfl⟩
            obtain ⟨yt, hyt⟩ : ∃ z, y.tx = z := ⟨_, rfl⟩
            obtain ⟨yn, hyn⟩ : ∃ z, y.nm = z := ⟨_, rfl⟩
            obtain ⟨yl, hyl⟩ : ∃ z, y.ps.length = z := ⟨_, rfl⟩
            rw [hyk] at c0
            rw [hyt] at c1
            rw [hyn] at c2
            rw [hyl] at c3
            rw [show (k + e) * 4 = k * 4 + e * 4 by omega] at c0 c1 c2 c3
            have HYK := Lib.hid (show (((fltL L).drop k)[e]'(by rw [HFL.out]; exact hlt)).kd = yk by rw [List.getElem_drop, hy, hyk])
            obtain ⟨b1, hb1⟩ : ∃ b, (yk == 1) = b := ⟨_, rfl⟩
            have HT2 := Lib.hid (fun W => isText_any yk yt yn (.slice sa2 yl sc2) b1 hb1 W)
            have HB1 := Lib.hid hb1
            have e3 : (e : Int) < (m : Int) := by omega
            have e4 : decide ((e : Int) < (m : Int)) = true := decide_eq_true (by omega)
            clear hy hyk hyt hyn hyl hb1
            gi_wp2_with fail
            refine (callsIn_wide.2 (HT2.out _)).mono ?_
            rintro e' wb ⟨rfl, hb⟩
            have HBB := Lib.hid (below_then HBA.out hb)
            clear hb c0 c1 c2 c3 HT2 HBA e3
            obtain ⟨wa, rfl⟩ : ∃ x, x = wb := ⟨_, rfl⟩
            have HBA := HBB
            clear HBB
            cases b1
            · have HEE := Lib.hid (show runLen ((fltL L).drop k) = e from run_stop (by rw [HFL.out]; exact hm) (by rw [HX0.out]; simpa using HB0.out) (by rw [HFL.out]; exact hlt) HE.out he1 (by rw [HYK.out]; simpa using HB1.out))
              clear e4
              have HRA := Lib.hid (HRI.out.below HJ.out (fun R e => Nat.lt_of_lt_of_le (HRW2.out R e) HMW.out) HBA.out)
              have hsa := HBA.out.size
              obtain ⟨p, hp1, hp2, hp3, hp4⟩ : ∃ p : Rn L, p.g = g ∧ p.k = k ∧ p.e = e ∧ p.c = cv := ⟨⟨g, k, e, cv, he1, by have := HKM.out; rw [HN.out]; omega⟩, rfl, rfl, rfl, rfl⟩
              have HP := Lib.hid (show p.run = ((fltL L).drop k).take e by unfold Rn.run; rw [hp2, hp3])
              obtain ⟨fn, tmps, assign, body, hy, hR⟩ := HY.out (8 - 1) pre p wa HRA.out.j ⟨cs, by rw [hp1]; exact (HRA.out.row (by rw [HN.out]; omega)).1⟩ (by have h1 := HRA.out.ln; have h2 := HKM.out; omega)
              simp only [encR, hp1, hp2, hp3, hp4] at hy
              clear hp1 hp2 hp3 hp4
              gi_wp2
              refine hR.mono ?_
              rintro e' W2 ⟨rfl, hJ2, hk2⟩
              have HNX := Lib.hid (HRA.out.next p HP.out HEE.out he1 HKN.out hJ2 hk2)
              have HMX := Lib.hid (show M ≤ W2.heap.size by have := hk2.below.size; have := HMW.out; omega)
              have HKX := Lib.hid (show (k + e) + (m - e) = n by have := HKM.out; omega)
              clear hJ2 hk2 hy hR
              gi_wp2
              refine ⟨⟨k + e, m - e, _, cv - e, _, by omega, by omega, rfl, HKX, Lib.hid (fun h => by rw [if_neg (by omega), show (k + e) * 4 = k * 4 + e * 4 by omega]), HMX, HNX⟩, ?_⟩
              simp [lenV]
              omega
            · have HE2 := Lib.hid (run_more (by rw [HFL.out]; exact hm) (by rw [HX0.out]; simpa using HB0.out) (by rw [HFL.out]; exact hlt) HE.out he1 (by rw [HYK.out]; simpa using HB1.out))
              have we : IntKind.i64.wrap ((e : Int) + 1) = ((e + 1 : Nat) : Int) := by rw [show (e : Int) + 1 = ((e + 1 : Nat) : Int) by omega]; exact IntWalk.i64_in _ (by omega)
              gi_wp2
              go_roundw
              case rel => exact ⟨e + 1, by omega, by omega, by go_num, HE2, HBA.out⟩
              case measure => simp [intOf]; omega
          · have HEE := Lib.hid (show runLen ((fltL L).drop k) = e by
              have h1 := runLen_le ((fltL L).drop k)
              have h2 := HE.out
              rw [HFL.out] at h1
              omega)
            have e4 : decide ((e : Int) < (m : Int)) = false := decide_eq_false (by omega)
            have HRA := Lib.hid (HRI.out.below HJ.out (fun R e => Nat.lt_of_lt_of_le (HRW2.out R e) HMW.out) HBA.out)
            have hsa := HBA.out.size
            obtain ⟨p, hp1, hp2, hp3, hp4⟩ : ∃ p : Rn L, p.g = g ∧ p.k = k ∧ p.e = e ∧ p.c = cv := ⟨⟨g, k, e, cv, he1, by have := HKM.out; rw [HN.out]; omega⟩, rfl, rfl, rfl, rfl⟩
            have HP := Lib.hid (show p.run = ((fltL L).drop k).take e by unfold Rn.run; rw [hp2, hp3])
            obtain ⟨fn, tmps, assign, body, hy, hR⟩ := HY.out (8 - 1) pre p wa HRA.out.j ⟨cs, by rw [hp1]; exact (HRA.out.row (by rw [HN.out]; omega)).1⟩ (by have h1 := HRA.out.ln; have h2 := HKM.out; omega)
            simp only [encR, hp1, hp2, hp3, hp4] at hy
            clear hp1 hp2 hp3 hp4
            gi_wp2
            refine hR.mono ?_
            rintro e' W2 ⟨rfl, hJ2, hk2⟩
            have HNX := Lib.hid (HRA.out.next p HP.out HEE.out he1 HKN.out hJ2 hk2)
            have HMX := Lib.hid (show M ≤ W2.heap.size by have := hk2.below.size; have := HMW.out; omega)
            have HKX := Lib.hid (show (k + e) + (m - e) = n by have := HKM.out; omega)
            clear hJ2 hk2 hy hR
            gi_wp2
            refine ⟨⟨k + e, m - e, _, cv - e, _, by omega, by omega, rfl, HKX, Lib.hid (fun h => by rw [if_neg (by omega), show (k + e) * 4 = k * 4 + e * 4 by omega]), HMX, HNX⟩, ?_⟩
            simp [lenV]
            omega
    · obtain rfl : m = 0 := by omega
      have HZ := Lib.hid (show pre.map Rn.run = runsL (fltL L) ∧ J pre wk from ⟨by
        have h1 := HRI.out.rs
        have h2 := HKM.out
        rw [List.drop_of_length_le (by rw [HN.out]; omega), runsL_nil, List.append_nil] at h1
        exact h1, HRI.out.j⟩)
      clear HRI HAD
      gi_wp2
      go_end0
      exact ⟨⟨_, rfl⟩, pre, HZ.out.1, HZ.out.2⟩
theorem runs_stops (w0 : World) (P : Nat → Prop) (L : List Nd) (v : Value) (hv : VsAt w0 P v L) (hl : L.length ≤ 100000) (M : Nat) (r : Option Nat) (B : Nat) (w : World) (hW : Below w0.heap.size w0 w) (hB : w.heap[B]? = some (.cells #[v] lT (0, 0))) :
    StopsE Fence.wide 8 Tryz.prog 85 #[.pointer (some ⟨B, 0, none⟩)] (encR (L := L)) (KpN w0.heap.size M r) (fun p W => OkR w0.heap.size p W) (fun ys => ys.map Rn.run = runsL (fltL L)) (L.length + 1) (GN w0.heap.size M r) w := fun l J W hw hJ hG hY h0 =>
  runs1_in w0 P L v hv hl M r B l J (fun s A C h hg => hJ s A C none h hg (fun r e => by cases e)) hG (fun m' pre p W1 h1 h2 h3 => yield_anyT m' (hY pre p W1 h1 h2 h3)) W
    (hW.trans (hw.mono hW.size)) ((hw.block B (heap_ltT hB)).trans hB) h0
end Go.Proofs.YtmfcepfagbkceaaGreatDoor
