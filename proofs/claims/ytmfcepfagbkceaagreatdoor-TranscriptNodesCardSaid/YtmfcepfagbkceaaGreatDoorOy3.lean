/- Stage 10 (transcript): TrRefM, put together by merge10.py. -/
import Derived.Test.YtmfcepfagbkceaaGreatDoorOy1
import Derived.Test.YtmfcepfagbkceaaGreatDoorOw
import Derived.Test.YtmfcepfagbkceaaGreatDoorOy0
import Derived.Test.YtmfcepfagbkceaaGreatDoorOy
namespace Go.Proofs.YtmfcepfagbkceaaGreatDoor
set_option linter.unusedSimpArgs false
set_option linter.unusedVariables false
set_option maxRecDepth 100000
open Go.RowKit Go.Shelf Go.Deep
theorem mrg_len : ∀ (l out : List Nd), (mrgL out l).length ≤ out.length + l.length
  | [], out => by rw [mrgL]; simp
  | x :: l, out => by
    have hp : (pushM out (mrgN x)).length ≤ out.length + 1 := by
      unfold pushM
      split
      · split
        · simp
        · simp
      · simp
    rw [mrgL]
    split
    · have := mrg_len l out; simp; omega
    · have := mrg_len l (pushM out (mrgN x)); simp; omega
theorem mrg_tx : ∀ (l out : List Nd) (B : Nat), (∀ y ∈ out, y.kd = 1 → y.tx.length ≤ B) → ∀ y ∈ mrgL out l, y.kd = 1 → y.tx.length ≤ B + (chrL l).length
  | [], out, B, h, y, hy, hk => by
    rw [mrgL] at hy
    have := h y hy hk
    omega
  | x :: l, out, B, h, y, hy, hk => by
    rw [chrL, chr_ps, List.length_append, List.length_append]
    rw [mrgL] at hy
    split at hy
    · have := mrg_tx l out B h y hy hk
      omega
    · have := mrg_tx l (pushM out (mrgN x)) (B + (if x.kd = 1 then x.tx else []).length) (fun z hz hzk => by
        obtain ⟨m1, m2, _, _⟩ := mrg_kd x
        unfold pushM at hz
        split at hz
        · rename_i u hu
          split at hz
          · rename_i hxu
            rcases List.mem_append.1 hz with hz | hz
            · have := h z (List.dropLast_subset _ hz) hzk; omega
            · rw [List.mem_singleton] at hz
              subst hz
              have := h u (List.mem_of_getLast? hu) hxu.2
              have hx1 : x.kd = 1 := by rw [← m1]; exact hxu.1
              show (u.tx ++ (mrgN x).tx).length ≤ _
              rw [m2, if_pos hx1, List.length_append]
              omega
          · rcases List.mem_append.1 hz with hz | hz
            · have := h z hz hzk; omega
            · rw [List.mem_singleton] at hz
              subst hz
              rw [m1] at hzk
              rw [m2, if_pos hzk]; omega
        · rcases List.mem_append.1 hz with hz | hz
          · have := h z hz hzk; omega
          · rw [List.mem_singleton] at hz
            subst hz
            rw [m1] at hzk
            rw [m2, if_pos hzk]; omega) y hy hk
      omega
theorem chr_pre (l : List Nd) (j : Nat) : (chrL (l.take j)).length ≤ (chrL l).length := by
  have h := chr_append (l.take j) (l.drop j)
  rw [List.take_append_drop] at h
  rw [h, List.length_append]; omega
theorem push_set {out : List Nd} {x : Nd} {m : Nat} (hm : m + 1 = out.length) (hx : x.kd = 1) (hy : (out[m]'(by omega)).kd = 1) :
    pushM out x = out.set m (.mk (out[m]'(by omega)).kd ((out[m]'(by omega)).tx ++ x.tx) (out[m]'(by omega)).nm (out[m]'(by omega)).ps) := by
  have hne : out ≠ [] := fun e => by rw [e] at hm; simp at hm
  obtain ⟨o, y, rfl⟩ : ∃ o y, out = o ++ [y] := ⟨out.dropLast, out.getLast hne, (List.dropLast_concat_getLast hne).symm⟩
  have e : m = o.length := by simp at hm; omega
  subst e
  have hg : (o ++ [y])[o.length]'(by omega) = y := by simp
  rw [hg] at hy ⊢
  rw [push_text o hx hy, List.set_append_right _ _ (Nat.le_refl _)]
  simp
theorem push_app {out : List Nd} {x : Nd} {m : Nat} (hm : m = out.length) (h : x.kd = 1 → ∀ (k : Nat) (hk : k < out.length), k + 1 = m → out[k].kd ≠ 1) : pushM out x = out ++ [x] := by
  refine push_new fun hx => ?_
  unfold lastN
  cases hl : out.getLast? with
  | none => rfl
  | some y =>
    show decide (y.kd = 1) = false
    obtain ⟨o, rfl⟩ := List.getLast?_eq_some_iff.1 hl
    have := h hx o.length (by simp) (by simp at hm; omega)
    simpa using this
theorem CsOf.setT {W : World} {P : Nat → Prop} {t : Bs} (ht : t.length ≤ 9223372036854775807) : ∀ {l : List Nd} {cs : List Value}, CsOf W P cs l → ∀ {j : Nat} (hj : j < l.length), CsOf W P (cs.set (j * 4 + 1) (sV t)) (l.set j (.mk l[j].kd t l[j].nm l[j].ps))
  | [], cs, h, j, hj => absurd hj (by simp)
  | x :: l, cs, h, 0, _ => by
    rw [CsOf] at h
    obtain ⟨s, rest, rfl, hv, h⟩ := h
    obtain ⟨k, t0, n, p⟩ := x
    obtain ⟨h1, h2, h3, h4, a, c, e, hs⟩ := vat_of hv
    refine ⟨s, rest, rfl, ?_, h⟩
    have es : s = .slice a p.length c := by
      have := congrArg (fun v => match v with | .agg cs => cs[3]? | _ => none) e
      simpa using this
    subst es
    exact vat_mk h1 h2 ht h4 hs
  | x :: l, cs, h, j + 1, hj => by
    rw [CsOf] at h
    obtain ⟨s, rest, rfl, hv, h⟩ := h
    have := CsOf.setT ht h (j := j) (by simpa using hj)
    rw [show (j + 1) * 4 + 1 = (j * 4 + 1) + 4 by omega]
    exact ⟨s, _, rfl, hv, this⟩
structure MgI (w : World) (L : List Nd) (j : Nat) (out : List Nd) (cs : List Value) (ov : Value) (wr : World) : Prop where
  ml : out = mrgL [] (L.take j)
  own : wr.ownsRow w.heap.size nT 4 ov out.length cs
  cs : CsOf wr (fun b => w.heap.size ≤ b ∧ ov.ownBlock ≠ some b) cs out
  len : out.length ≤ j
  be : Below w.heap.size w wr
structure MgB (w wk w6 : World) (xk : Int) (xt : Bs) (xn : Int) (pm : List Nd) (ua : Option Addr) (uc : Nat) : Prop where
  box : w6.heap[wk.heap.size]? = some (.cells #[intV xk, sV xt, intV xn, .slice ua pm.length uc] nT (0, 0))
  keep : ∀ b, b < wk.heap.size → w6.heap[b]? = wk.heap[b]?
  vs : VsAt w6 (fun b => wk.heap.size ≤ b) (.slice ua pm.length uc) pm
  lt : wk.heap.size < w6.heap.size
  be : Below w.heap.size w w6
  tx : xt.length ≤ 9223372036854775807
  nm : -9223372036854775808 ≤ xn ∧ xn ≤ 9223372036854775807
  ln : pm.length ≤ 9223372036854775807
theorem MgB.vat {w wk w6 : World} {xk : Int} {xt : Bs} {xn : Int} {pm : List Nd} {ua : Option Addr} {uc : Nat} (h : MgB w wk w6 xk xt xn pm ua uc) {P : Nat → Prop} (hP : ∀ b, wk.heap.size ≤ b → P b) :
    VAt w6 P (.agg #[intV xk, sV xt, intV xn, .slice ua pm.length uc]) (.mk xk xt xn pm) := vat_mk h.nm.1 h.nm.2 h.tx h.ln (h.vs.mono fun b _ hb => hP b hb)
theorem mgb_none {w wk w3 : World} {xk : Int} {xt : Bs} {xn : Int} {pm : List Nd} {ua : Option Addr} {uc : Nat} (hB : Below w.heap.size w wk) (hk : w3.heap[wk.heap.size]? = some (.cells #[intV xk, sV xt, intV xn, .slice ua pm.length uc] nT (0, 0)))
    (hb : Below wk.heap.size wk w3) (tx : xt.length ≤ 9223372036854775807) (nm : -9223372036854775808 ≤ xn ∧ xn ≤ 9223372036854775807) (h0 : pm.length = 0) : MgB w wk w3 xk xt xn pm ua uc :=
  ⟨hk, fun b h => hb.block b h, ⟨ua, uc, rfl, fun h => absurd h (by omega)⟩, heap_ltT hk, hB.trans (hb.mono hB.size), tx, nm, by omega⟩
theorem mgb_call {w wk w3 w5 w6 : World} {xk : Int} {xt : Bs} {xn : Int} {pm : List Nd} {s : Value} {ua : Option Addr} {uc : Nat} (hB : Below w.heap.size w wk) (hk : w3.heap[wk.heap.size]? = some (.cells #[intV xk, sV xt, intV xn, s] nT (0, 0)))
    (hb : Below wk.heap.size wk w3) (h5 : Below w3.heap.size w3 w5) (hu : VsAt w5 (fun b => w3.heap.size ≤ b) (.slice ua pm.length uc) pm) (tx : xt.length ≤ 9223372036854775807) (nm : -9223372036854775808 ≤ xn ∧ xn ≤ 9223372036854775807) (ln : pm.length ≤ 9223372036854775807)
    (h6 : w5.setCell ⟨wk.heap.size, 3, none⟩ (.slice ua pm.length uc) = w6) : MgB w wk w6 xk xt xn pm ua uc := by
  have hl := heap_ltT hk
  have k5 := (h5.block _ hl).trans hk
  have hs5 := h5.size
  have hws := hB.size
  have hk6 : ∀ b, b ≠ wk.heap.size → w6.heap[b]? = w5.heap[b]? := fun b hb => by rw [← h6]; exact Below.heap_setCell _ _ _ _ hb
  have s6 : w6.heap.size = w5.heap.size := by rw [← h6]; simp [World.setCell]
  refine ⟨by rw [← h6]; exact set_step 3 _ k5, fun b h => (hk6 b (by omega)).trans ((h5.block b (by omega)).trans (hb.block b h)), ?_, by omega, ?_, tx, nm, ln⟩
  · exact (hu.keep (W' := w6) (fun b hb _ => hk6 b (by omega)) (by omega)).mono fun b _ h => by omega
  · rw [← h6]
    exact ((hB.trans (hb.mono hws)).trans (h5.mono (by omega))).setCell (p := ⟨wk.heap.size, 3, none⟩) hws _
theorem mgi_app {w wk w6 w7 w9 : World} {L : List Nd} {j n0 g cp : Nat} {out : List Nd} {cs : List Value} {oa : Option Addr} {oc : Nat} {xk : Int} {xt : Bs} {xn : Int} {pm : List Nd} {ua : Option Addr} {uc : Nat}
    (HI : MgI w L j out cs (.slice oa n0 oc) wk) (HN : out.length = n0) (HB : MgB w wk w6 xk xt xn pm ua uc) (h7 : Below w6.heap.size w6 w7)
    (hown : w9.ownsRow w.heap.size nT 4 (.slice (some ⟨g, 0, none⟩) (n0 + 1) cp) (n0 + 1) (cs ++ [intV xk, sV xt, intV xn, .slice ua pm.length uc])) (hgrow : w7.grownBy w9 (Value.slice oa n0 oc).ownBlock) (hat : (Value.slice oa n0 oc).ownBlock = some g ∨ w7.heap.size ≤ g)
    (hm : mrgL [] (L.take (j + 1)) = out ++ [.mk xk xt xn pm]) : MgI w L (j + 1) (out ++ [.mk xk xt xn pm]) (cs ++ [intV xk, sV xt, intV xn, .slice ua pm.length uc]) (.slice (some ⟨g, 0, none⟩) (n0 + 1) cp) w9 := by
  have hws := HI.be.size
  have hlt := HB.lt
  have hs7 := h7.size
  have hov : ∀ b, (Value.slice oa n0 oc).ownBlock = some b → b < wk.heap.size := fun b hb => (HI.own.lt b hb).2
  have keep7 : ∀ b, b < wk.heap.size → w7.heap[b]? = wk.heap[b]? := fun b hb => (h7.block b (by omega)).trans (HB.keep b hb)
  have hcs7 := HI.cs.keep (W' := w7) (fun b _ hlt => keep7 b hlt) (by omega)
  have hy7 := (HB.vat (P := fun b => w.heap.size ≤ b ∧ (Value.slice oa n0 oc).ownBlock ≠ some b) fun b hb => ⟨by omega, fun e => by have := hov b e; omega⟩).below h7
  have hB7 : Below w.heap.size w w7 := HB.be.trans (h7.mono (by have := HB.be.size; omega))
  refine ⟨hm.symm, ?_, row_push (n := n0) (cap := cp) (y := .mk xk xt xn pm) hcs7 hy7 hgrow hat, ?_, hB7.grown hgrow hB7.size fun k hk => (HI.own.lt k hk).1⟩
  · rw [List.length_append, HN]; exact hown
  · have := HI.len
    rw [List.length_append]; simp; omega
theorem mgi_join {w wk w6 w9 : World} {L : List Nd} {j n0 m g : Nat} {out : List Nd} {cs : List Value} {oc : Nat} {xk : Int} {xt : Bs} {xn : Int} {pm : List Nd} {ua : Option Addr} {uc : Nat} {y : Nd}
    (HI : MgI w L j out cs (.slice (some ⟨g, 0, none⟩) n0 oc) wk) (HN : out.length = n0) (HB : MgB w wk w6 xk xt xn pm ua uc) (hm : m < out.length) (hy : out[m] = y) (hm2 : m + 1 = n0) (hx1 : xk = 1) (hy1 : y.kd = 1)
    (ht : (y.tx ++ xt).length ≤ 9223372036854775807) (hp : mrgL [] (L.take (j + 1)) = pushM out (.mk xk xt xn pm)) {w6' : World} (h6 : Below w6.heap.size w6 w6')
    (h9 : w6'.setCell ⟨g, m * 4 + 1, none⟩ (sV (y.tx ++ xt)) = w9) : MgI w L (j + 1) (out.set m (.mk y.kd (y.tx ++ xt) y.nm y.ps)) (cs.set (m * 4 + 1) (sV (y.tx ++ xt))) (.slice (some ⟨g, 0, none⟩) n0 oc) w9 := by
  have hws := HI.be.size
  have hlt := HB.lt
  have hg := HI.own.lt g rfl
  have keep6 : ∀ b, b < wk.heap.size → w6'.heap[b]? = wk.heap[b]? := fun b hb => (h6.block b (by omega)).trans (HB.keep b hb)
  have hs6 := h6.size
  have hk9 : ∀ b, b ≠ g → w9.heap[b]? = w6'.heap[b]? := fun b hb => by rw [← h9]; exact Below.heap_setCell _ _ _ _ hb
  have s9 : w9.heap.size = w6'.heap.size := by rw [← h9]; simp [World.setCell]
  have hown := own_keepT (W' := w6') HI.own fun k hk => keep6 k (HI.own.lt k hk).2
  refine ⟨?_, ?_, ?_, ?_, ?_⟩
  · rw [hp, push_set (x := .mk xk xt xn pm) (m := m) (by omega) hx1 (by rw [hy]; exact hy1), hy]
    rfl
  · rw [List.length_set, ← h9]
    rw [HN] at hown ⊢
    exact (hown.stored (m * 4 + 1) (sV (y.tx ++ xt))).1
  · have hc := (HI.cs.keep (W' := w9) (fun b hp hb => (hk9 b (fun e => hp.2 (by rw [e]; rfl))).trans (keep6 b hb)) (by omega)).setT ht hm
    rw [hy] at hc
    exact hc
  · rw [List.length_set]; have := HI.len; omega
  · rw [← h9]
    exact (HB.be.trans (h6.mono (by have := HB.be.size; omega))).setCell (p := ⟨g, m * 4 + 1, none⟩) hg.1 _
def MergePost (L : List Nd) (w : World) (e : Ending) (w' : World) : Prop := ∃ u, e = .returned u ∧ VsAt w' (fun b => w.heap.size ≤ b) u (mrgL [] L) ∧ Below w.heap.size w w'
theorem MgI.drew {w : World} {L : List Nd} {j : Nat} {out : List Nd} {cs : List Value} {ov : Value} {wr : World} (h : MgI w L j out cs ov wr) : MgI w L j out cs ov wr.drew :=
  ⟨h.ml, World.ownsRow.drew h.own, CsOf.keep (W := wr) (W' := wr.drew) (fun b _ _ => rfl) (Nat.le_refl _) h.cs, h.len, h.be.drew⟩
theorem vat_nmR {W : World} {P : Nat → Prop} {v : Value} {x : Nd} (h : VAt W P v x) : -9223372036854775808 ≤ x.nm ∧ x.nm ≤ 9223372036854775807 := by
  obtain ⟨k, t, n, p⟩ := x
  obtain ⟨h1, h2, _⟩ := vat_of h
  exact ⟨h1, h2⟩
theorem mrg_ps (x : Nd) : mrgN x = .mk x.kd x.tx x.nm (mrgL [] x.ps) := by obtain ⟨k, t, n, p⟩ := x; rw [mrgN]; rfl
set_option maxHeartbeats 16000000 in
theorem merge10_any : ∀ (N : Nat) (L : List Nd), tots L ≤ N → tots L ≤ 100000 → (chrL L).length ≤ 1000000000 → ∀ (v : Value) (P : Nat → Prop) (w : World), VsAt w P v L →
    Calls Tryz.prog 27 #[v] w (MergePost L w) := by
  intro N
  induction N using Nat.strongRecOn with
  | _ N ih =>
    intro L hN hMx hch v P w hv
    have HV := Lib.hid hv
    obtain ⟨a, c, rfl, hvi⟩ := id hv
    have hll := len_tots L
    have IH := Lib.hid ih
    have HCH := Lib.hid hch
    obtain ⟨i0, hi, hz0, hz1, hz2⟩ := info_parts info_nd
    clear hv hvi ih hch
    go_enter Tryz.func27, Tryz.ntmps27
    go_wp2
    go_loopw [3, 4] (fun ov iv wr => ∃ (j : Nat) (out : List Nd) (cs : List Value), j ≤ L.length ∧ iv = .int .i64 j ∧ Hid (MgI w L j out cs ov wr)) (fun _ iv _ => L.length - (intOf iv).toNat)
    case atStart => exact ⟨0, [], [], Nat.zero_le _, rfl, Lib.hid ⟨by rw [List.take_zero, mrgL], ⟨rfl, .inr ⟨_, _, #[], rfl, Nat.le_refl _, World.alloc_heap_new _ _, Nat.le_refl _, Nat.zero_le _, rfl, rfl⟩⟩, by rw [CsOf], Nat.zero_le _, below_alloc _ _⟩⟩
    case round =>
      obtain ⟨j, out, cs, hj, rfl, HI⟩ := hrel
      obtain ⟨wk, rfl⟩ : ∃ x, x = wr := ⟨_, rfl⟩
      obtain ⟨n0, hn0⟩ : ∃ n, out.length = n := ⟨_, rfl⟩
      obtain ⟨oa, oc, rfl⟩ : ∃ oa oc, u3 = .slice oa n0 oc := by
        rcases HI.out.own.2 with ⟨h, h0⟩ | ⟨g, cap, cur, h, _⟩
        · exact ⟨none, 0, by rw [h, ← hn0, h0]⟩
        · exact ⟨_, _, by rw [h, hn0]⟩
      have hol := HI.out.len
      rw [hn0] at hol
      have HN0 := Lib.hid hn0
      clear hn0
      by_cases hlt : j < L.length
      · obtain ⟨x, hx⟩ : ∃ x, L[j] = x := ⟨_, rfl⟩
        obtain ⟨bb, off, sa, sc, rfl, _, hbb, c1, c2, c3, c4, hxv⟩ := HV.out.elem' hlt
        rw [hx] at c1 c2 c3 c4 hxv
        have hBk := HI.out.be
        have d1 := (hBk.cell (p := ⟨bb, off + j * 4, none⟩) hbb).trans c1
        have d2 := (hBk.cell (p := ⟨bb, off + j * 4 + 1, none⟩) hbb).trans c2
        have d3 := (hBk.cell (p := ⟨bb, off + j * 4 + 2, none⟩) hbb).trans c3
        have d4 := (hBk.cell (p := ⟨bb, off + j * 4 + 3, none⟩) hbb).trans c4
        have i0' : (0 : Int) ≤ (j : Int) := by omega
        have i1 : (j : Int) < (L.length : Int) := by omega
        have i1' : decide ((j : Int) < (L.length : Int)) = true := decide_eq_true i1
        have hst := mrg_step hlt
        rw [hx] at hst
        obtain ⟨hs1, _⟩ := tots_at hlt
        have hle := (tots_le (l := L) (j + 1)).1
        have hxt := tot_ps x
        have hchx := (tots_mem hlt).2
        rw [hx] at hs1 hchx
        have hchp : (chrL x.ps).length ≤ 1000000000 := by
          have := HCH.out
          rw [chr_ps, List.length_append] at hchx
          omega
        have htxl := vat_txR hxv
        have hpl := vat_pl hxv
        have hnm := vat_nmR hxv
        have hchj : (chrL (L.take (j + 1))).length ≤ 1000000000 := Nat.le_trans (chr_pre L (j + 1)) HCH.out
        rw [chr_at hlt, hx, chr_ps, List.length_append, List.length_append] at hchj
        have hparts : VsAt w P (.slice sa x.ps.length sc) x.ps := parts_at hxv (Below.refl _ _)
        have hws := hBk.size
        obtain ⟨xk, hxk⟩ : ∃ z, x.kd = z := ⟨_, rfl⟩
        obtain ⟨xt, hxtt⟩ : ∃ z, x.tx = z := ⟨_, rfl⟩
        obtain ⟨xn, hxn⟩ : ∃ z, x.nm = z := ⟨_, rfl⟩
        obtain ⟨xp, hxp⟩ : ∃ z, x.ps = z := ⟨_, rfl⟩
        have hmn := mrg_ps x
        rw [hxk, hxtt, hxn, hxp] at hmn
        rw [hmn] at hst
        rw [hxk, hxtt] at hst hchj
        rw [hxk] at d1
        rw [hxtt] at d2 htxl
        rw [hxn] at d3 hnm
        rw [hxp] at d4 hxt hchp hpl hparts
        have HSTp := Lib.hid hst
        have HCJ := Lib.hid hchj
        have HNM := Lib.hid (And.intro hnm (And.intro htxl hpl))
        have HREC := Lib.hid (fun W (h : Below w.heap.size w W) => IH.out (tots xp) (by omega) xp (Nat.le_refl _) (by omega) hchp _ P W (hparts.below h))
        have wj : IntKind.i64.wrap ((j : Int) + 1) = (((j + 1) : Nat) : Int) := by rw [show (j : Int) + 1 = (((j + 1) : Nat) : Int) by omega]; exact IntWalk.i64_in _ (by omega)
        obtain ⟨w3, hw3⟩ : ∃ X, wk.alloc (.cells #[intV xk, sV xt, intV xn, .slice sa xp.length sc] nT (0, 0)) = X := ⟨_, rfl⟩
        have k3 : w3.heap[wk.heap.size]? = some (.cells #[intV xk, sV xt, intV xn, .slice sa xp.length sc] nT (0, 0)) := by rw [← hw3]; exact World.alloc_heap_new _ _
        have b3 : Below wk.heap.size wk w3 := by rw [← hw3]; exact below_alloc _ _
        have s3 : w3.heap.size = wk.heap.size + 1 := by rw [← hw3]; simp
        obtain ⟨e0, e1, e2, e3⟩ := box4T k3
        have HW3 := Lib.hid hw3
        have HK3 := Lib.hid k3
        have H3 := Lib.hid b3
        clear hx c1 c2 c3 c4 hxv hBk hst hs1 hle hxt hchx hchp htxl hpl hnm hchj hparts hxk hxtt hxn hxp hmn hw3 k3 b3 hbb
        have htl := baL_tl xt
        by_cases hsk : xk = 1 ∧ xt = []
        ·
          have q1 : (xk == 1) = true := by simp [hsk.1]
          have hte : xt.isEmpty = true := by rw [hsk.2]; rfl
          have HF := Lib.hid (show MgI w L (j + 1) out cs (.slice oa n0 oc) w3 from
            ⟨by rw [HSTp.out, if_pos hsk]; exact HI.out.ml, own_keepT HI.out.own fun g hg => H3.out.block g (HI.out.own.lt g hg).2, HI.out.cs.keep (fun b _ hlt => H3.out.block b hlt) H3.out.size, by have := HI.out.len; omega, HI.out.be.trans (H3.out.mono hws)⟩)
          clear hsk
          go_upto_region 6 with fail
          rw [HW3.out]
          go_wp2
          refine ⟨⟨j + 1, out, _, by omega, ?_, HF⟩, ?_⟩
          · first | rfl | (rw [show (((j + 1) : Nat) : Int) = (j : Int) + 1 by omega])
          · simp [intOf]; omega
        · have HST := Lib.hid (show mrgL [] (L.take (j + 1)) = pushM out (.mk xk xt xn (mrgL [] xp)) by rw [HSTp.out, if_neg hsk, ← HI.out.ml])
          clear HSTp
          by_cases hk1 : xk = 1
          · have q1 : (xk == 1) = true := by simp [hk1]
            have hte : xt.isEmpty = false := by cases xt with | nil => exact absurd ⟨hk1, rfl⟩ hsk | cons c l => rfl
            have HX1 := Lib.hid hk1
            clear hk1 hsk
            by_cases hp0 : 0 < xp.length
            · have qp : decide ((0 : Int) < (xp.length : Int)) = true := decide_eq_true (by omega)
              have qp2 : (0 : Int) < (xp.length : Int) := by omega
              go_upto_region 6 with fail
              rw [HW3.out]
              have HR := Lib.hid (HREC.out w3 (HI.out.be.trans (H3.out.mono hws)))
              clear HREC
              go_wp2_with fail
              refine HR.out.mono ?_
              rintro e w5 ⟨u, rfl, hu, h5⟩
              have k5 := (h5.block _ (show wk.heap.size < w3.heap.size by omega)).trans HK3.out
              clear e0 e1 e2 e3
              obtain ⟨e0, e1, e2, e3⟩ := box4T k5
              have f3 := heap_free k5 3
              obtain ⟨pm, hpm⟩ : ∃ p, mrgL [] xp = p := ⟨_, rfl⟩
              have hpl : pm.length ≤ 9223372036854775807 := by
                have h1 := mrg_len xp []
                have h2 := HNM.out.2.2
                rw [hpm, List.length_nil] at h1
                omega
              rw [hpm] at hu HST
              obtain ⟨ua, uc, rfl, hui⟩ := id hu
              clear hui
              obtain ⟨w6, hw6⟩ : ∃ X, w5.setCell ⟨wk.heap.size, 3, none⟩ (.slice ua pm.length uc) = X := ⟨_, rfl⟩
              have HMB := Lib.hid (mgb_call HI.out.be HK3.out H3.out h5 hu HNM.out.2.1 HNM.out.1 hpl hw6)
              have HW6 := Lib.hid hw6
              clear hw6 h5 k5 hu hpm hpl HR
              go_upto_region 9 with fail
              rw [HW6.out]
              clear e0 e1 e2 e3 f3
              obtain ⟨e0, e1, e2, e3⟩ := box4T HMB.out.box
              by_cases h0 : 0 < n0
              · skip
                obtain ⟨m, hm⟩ : ∃ m, m + 1 = n0 := ⟨n0 - 1, by omega⟩
                obtain ⟨g, rfl⟩ : ∃ g, oa = some ⟨g, 0, none⟩ := by
                  rcases HI.out.own.2 with ⟨h, h0⟩ | ⟨g, cap, cur, h, _⟩
                  · cases h; omega
                  · cases h; exact ⟨g, rfl⟩
                have hmo : m < out.length := by rw [HN0.out]; omega
                obtain ⟨y, hy⟩ : ∃ y, out[m] = y := ⟨_, rfl⟩
                obtain ⟨ys, g0, g1, g2, g3, hyv⟩ := HI.out.cs.get hmo
                rw [hy] at g0 g1 hyv
                have hgl := (HI.out.own.lt g rfl).2
                have l0 := HI.out.own.cells (g := g) rfl _ _ g0
                have l1 := HI.out.own.cells (g := g) rfl _ _ g1
                rw [add_plainT, Nat.zero_add] at l0 l1
                have l0 := (World.cell?_of_block (a := ⟨g, m * 4, none⟩) (HMB.out.keep g hgl)).trans l0
                have l1 := (World.cell?_of_block (a := ⟨g, m * 4 + 1, none⟩) (HMB.out.keep g hgl)).trans l1
                have qn : decide ((0 : Int) < (n0 : Int)) = true := decide_eq_true (by omega)
                have qn2 : (0 : Int) < (n0 : Int) := by omega
                have wn : IntKind.i64.wrap ((n0 : Int) - 1) = (m : Int) := by rw [show (n0 : Int) - 1 = (m : Int) by omega]; exact IntWalk.i64_in _ (by omega)
                have m0 : (0 : Int) ≤ (m : Int) := by omega
                have m1 : (m : Int) < (n0 : Int) := by omega
                have HYV := Lib.hid hyv
                clear g0 g1 g2 g3 hyv
                have HM := Lib.hid (show m + 1 = n0 ∧ ∃ h : m < out.length, out[m] = y from ⟨hm, hmo, hy⟩)
                obtain ⟨yk, hyk⟩ : ∃ z, y.kd = z := ⟨_, rfl⟩
                rw [hyk] at l0
                clear hm hy hmo
                by_cases hy1 : yk = 1
                · skip
                  have q2 : (yk == 1) = true := by simp [hy1]
                  have HYK := Lib.hid (hyk.trans hy1)
                  clear hy1 hyk
                  obtain ⟨yt, hyt⟩ : ∃ z, y.tx = z := ⟨_, rfl⟩
                  rw [hyt] at l1
                  have htl2 : (yt ++ xt).length ≤ 1000000000 := by
                    have h1 := mrg_tx (L.take j) [] 0 (fun z hz => by cases hz) y (by rw [← HI.out.ml, ← HM.out.2.choose_spec]; exact List.getElem_mem _) HYK.out
                    have h2 := HCJ.out
                    rw [if_pos HX1.out] at h2
                    rw [hyt] at h1
                    rw [List.length_append]
                    omega
                  have hadd : ∀ W, (Op.stringOp .add (baL yt) (baL xt)).run Tryz.prog W = .ok (.string (baL yt ++ baL xt)) W := fun W => run_string_add_sum W _ _ (by rw [baL_size, baL_size]; rw [List.length_append] at htl2; omega)
                  have hy2 : baL yt ++ baL xt = baL (yt ++ xt) := baL_append _ _
                  have hf := (show w6.ownsRow w.heap.size nT 4 (.slice (some ⟨g, 0, none⟩) n0 oc) n0 cs by
                    have h := own_keepT (W' := w6) HI.out.own fun g hg => HMB.out.keep g (HI.out.own.lt g hg).2
                    rw [HN0.out] at h
                    exact h).frozenAt (m * 4 + 1)
                  have HF := Lib.hid (fun w9 h9 => (mgi_join (w9 := w9) HI.out HN0.out HMB.out (by rw [HN0.out]; have := HM.out.1; omega) HM.out.2.choose_spec HM.out.1 HX1.out HYK.out (by rw [hyt]; omega) HST.out (Below.refl _ _) h9).drew)
                  rw [hyt] at HF
                  have z1 : (baL yt).size ≤ 1000000000 := by rw [baL_size]; rw [List.length_append] at htl2; omega
                  have z2 : (baL xt).size ≤ 1000000000 := by rw [baL_size]; rw [List.length_append] at htl2; omega
                  clear hyt htl2
                  go_wp2_with fail
                  go_region
                  go_wp2
                  refine ⟨⟨j + 1, _, _, by omega, ?_, Lib.hid (HF.out _ rfl)⟩, ?_⟩
                  · first | rfl | (rw [show (((j + 1) : Nat) : Int) = (j : Int) + 1 by omega])
                  · simp [intOf]; omega
                · have q2 : (yk == 1) = false := by simpa using hy1
                  have HYK := Lib.hid (show y.kd ≠ 1 by rw [hyk]; exact hy1)
                  clear hy1 hyk
                  have hs6 := HMB.out.lt
                  have hw6z := HMB.out.be.size
                  obtain ⟨w7, hw7⟩ : ∃ X, w6.alloc (.cells #[intV xk, sV xt, intV xn, .slice ua pm.length uc] nT (0, 0)) = X := ⟨_, rfl⟩
                  have k7 : w7.heap[w6.heap.size]? = some (.cells #[intV xk, sV xt, intV xn, .slice ua pm.length uc] nT (0, 0)) := by rw [← hw7]; exact World.alloc_heap_new _ _
                  have HB7 := Lib.hid (show Below w6.heap.size w6 w7 by rw [← hw7]; exact below_alloc _ _)
                  have HSn := Lib.hid (show w7.heap.size = w6.heap.size + 1 by rw [← hw7]; simp)
                  have HNWn := Lib.hid (World.news_of_block k7)
                  have HOWn := Lib.hid (show w7.ownsRow w.heap.size nT 4 (.slice (some ⟨g, 0, none⟩) n0 oc) n0 cs by
                    have h := own_keepT (W' := w7) HI.out.own fun g hg => by
                      have hl := (HI.out.own.lt g hg).2
                      exact (HB7.out.block g (by omega)).trans (HMB.out.keep g hl)
                    rw [HN0.out] at h
                    exact h)
                  have q7 : w.heap.size ≤ w7.heap.size := by have := HSn.out; omega
                  have HWn := Lib.hid hw7
                  clear hw7 k7
                  go_wp2_with (at_builtin; rw [HWn.out]; go_loud (refine wpList_append_lies _ (by rfl) _ _ lT (by rfl) w.heap.size nT i0 (.agg z4.toArray) 4 56 Tryz.underlying24 hi hz0 hz1 hz2 (by rfl) (by decide) _ n0 cs (by rfl) HOWn.out ⟨w6.heap.size, 0, none⟩ 1 1 [intV xk, sV xt, intV xn, .slice ua pm.length uc] (by rfl) (by rfl) HNWn.out (by intro u hu; simp only [List.mem_cons, List.mem_nil_iff, or_false] at hu; rcases hu with rfl | rfl | rfl | rfl <;> rfl) (by decide) (by unfold maxLen; omega) (by omega) (by omega) (w6.heap.size + 1) HSn.out ?_))
                  intro g9 cp w9 hown hgrow hat hlt9
                  have HF := Lib.hid (mgi_app HI.out HN0.out HMB.out HB7.out hown hgrow (by rcases hat with h | h; exact .inl h; exact .inr (by rw [HSn.out]; omega)) (by rw [HST.out]; exact push_app (m := n0) HN0.out.symm (fun _ k hk ek => (show k = m by have h1 := HM.out.1; omega) ▸ (fun e => HYK.out (by rw [← HM.out.2.choose_spec]; exact e)))))
                  clear hown hgrow hat hlt9
                  go_wp2
                  refine ⟨⟨j + 1, _, _, by omega, ?_, HF⟩, ?_⟩
                  · first | rfl | (rw [show (((j + 1) : Nat) : Int) = (j : Int) + 1 by omega])
                  · simp [intOf]; omega
              · have qn : decide ((0 : Int) < (n0 : Int)) = false := decide_eq_false (by omega)
                have qn2 : ¬ (0 : Int) < (n0 : Int) := by omega
                have hs6 := HMB.out.lt
                have hw6z := HMB.out.be.size
                obtain ⟨w7, hw7⟩ : ∃ X, w6.alloc (.cells #[intV xk, sV xt, intV xn, .slice ua pm.length uc] nT (0, 0)) = X := ⟨_, rfl⟩
                have k7 : w7.heap[w6.heap.size]? = some (.cells #[intV xk, sV xt, intV xn, .slice ua pm.length uc] nT (0, 0)) := by rw [← hw7]; exact World.alloc_heap_new _ _
                have HB7 := Lib.hid (show Below w6.heap.size w6 w7 by rw [← hw7]; exact below_alloc _ _)
                have HSn := Lib.hid (show w7.heap.size = w6.heap.size + 1 by rw [← hw7]; simp)
                have HNWn := Lib.hid (World.news_of_block k7)
                have HOWn := Lib.hid (show w7.ownsRow w.heap.size nT 4 (.slice oa n0 oc) n0 cs by
                  have h := own_keepT (W' := w7) HI.out.own fun g hg => by
                    have hl := (HI.out.own.lt g hg).2
                    exact (HB7.out.block g (by omega)).trans (HMB.out.keep g hl)
                  rw [HN0.out] at h
                  exact h)
                have q7 : w.heap.size ≤ w7.heap.size := by have := HSn.out; omega
                have HWn := Lib.hid hw7
                clear hw7 k7
                go_wp2_with (at_builtin; rw [HWn.out]; go_loud (refine wpList_append_lies _ (by rfl) _ _ lT (by rfl) w.heap.size nT i0 (.agg z4.toArray) 4 56 Tryz.underlying24 hi hz0 hz1 hz2 (by rfl) (by decide) _ n0 cs (by rfl) HOWn.out ⟨w6.heap.size, 0, none⟩ 1 1 [intV xk, sV xt, intV xn, .slice ua pm.length uc] (by rfl) (by rfl) HNWn.out (by intro u hu; simp only [List.mem_cons, List.mem_nil_iff, or_false] at hu; rcases hu with rfl | rfl | rfl | rfl <;> rfl) (by decide) (by unfold maxLen; omega) (by omega) (by omega) (w6.heap.size + 1) HSn.out ?_))
                intro g9 cp w9 hown hgrow hat hlt9
                have HF := Lib.hid (mgi_app HI.out HN0.out HMB.out HB7.out hown hgrow (by rcases hat with h | h; exact .inl h; exact .inr (by rw [HSn.out]; omega)) (by rw [HST.out]; exact push_app (m := n0) HN0.out.symm (fun _ k hk ek => absurd ek (by omega))))
                clear hown hgrow hat hlt9
                go_wp2
                refine ⟨⟨j + 1, _, _, by omega, ?_, HF⟩, ?_⟩
                · first | rfl | (rw [show (((j + 1) : Nat) : Int) = (j : Int) + 1 by omega])
                · simp [intOf]; omega
            · have qp : decide ((0 : Int) < (xp.length : Int)) = false := decide_eq_false (by omega)
              go_upto_region 6 with fail
              rw [HW3.out]
              have HMB := Lib.hid (mgb_none (pm := xp) (ua := sa) (uc := sc) HI.out.be HK3.out H3.out HNM.out.2.1 HNM.out.1 (by omega))
              rw [show mrgL [] xp = xp by rw [List.eq_nil_of_length_eq_zero (show xp.length = 0 by omega), mrgL]] at HST
              obtain ⟨pm, hpm⟩ : ∃ p, p = xp := ⟨_, rfl⟩
              obtain ⟨w6, hw6⟩ : ∃ p, p = w3 := ⟨_, rfl⟩
              clear HREC
              go_upto_region 9 with fail
              clear HW3 HK3 H3 hp0 qp s3
              subst hpm hw6
              obtain ⟨ua, hua⟩ : ∃ p, p = sa := ⟨_, rfl⟩
              obtain ⟨uc, huc⟩ : ∃ p, p = sc := ⟨_, rfl⟩
              subst hua huc
              by_cases h0 : 0 < n0
              · skip
                obtain ⟨m, hm⟩ : ∃ m, m + 1 = n0 := ⟨n0 - 1, by omega⟩
                obtain ⟨g, rfl⟩ : ∃ g, oa = some ⟨g, 0, none⟩ := by
                  rcases HI.out.own.2 with ⟨h, h0⟩ | ⟨g, cap, cur, h, _⟩
                  · cases h; omega
                  · cases h; exact ⟨g, rfl⟩
                have hmo : m < out.length := by rw [HN0.out]; omega
                obtain ⟨y, hy⟩ : ∃ y, out[m] = y := ⟨_, rfl⟩
                obtain ⟨ys, g0, g1, g2, g3, hyv⟩ := HI.out.cs.get hmo
                rw [hy] at g0 g1 hyv
                have hgl := (HI.out.own.lt g rfl).2
                have l0 := HI.out.own.cells (g := g) rfl _ _ g0
                have l1 := HI.out.own.cells (g := g) rfl _ _ g1
                rw [add_plainT, Nat.zero_add] at l0 l1
                have l0 := (World.cell?_of_block (a := ⟨g, m * 4, none⟩) (HMB.out.keep g hgl)).trans l0
                have l1 := (World.cell?_of_block (a := ⟨g, m * 4 + 1, none⟩) (HMB.out.keep g hgl)).trans l1
                have qn : decide ((0 : Int) < (n0 : Int)) = true := decide_eq_true (by omega)
                have qn2 : (0 : Int) < (n0 : Int) := by omega
                have wn : IntKind.i64.wrap ((n0 : Int) - 1) = (m : Int) := by rw [show (n0 : Int) - 1 = (m : Int) by omega]; exact IntWalk.i64_in _ (by omega)
                have m0 : (0 : Int) ≤ (m : Int) := by omega
                have m1 : (m : Int) < (n0 : Int) := by omega
                have HYV := Lib.hid hyv
                clear g0 g1 g2 g3 hyv
                have HM := Lib.hid (show m + 1 = n0 ∧ ∃ h : m < out.length, out[m] = y from ⟨hm, hmo, hy⟩)
                obtain ⟨yk, hyk⟩ : ∃ z, y.kd = z := ⟨_, rfl⟩
                rw [hyk] at l0
                clear hm hy hmo
                by_cases hy1 : yk = 1
                · skip
                  have q2 : (yk == 1) = true := by simp [hy1]
                  have HYK := Lib.hid (hyk.trans hy1)
                  clear hy1 hyk
                  obtain ⟨yt, hyt⟩ : ∃ z, y.tx = z := ⟨_, rfl⟩
                  rw [hyt] at l1
                  have htl2 : (yt ++ xt).length ≤ 1000000000 := by
                    have h1 := mrg_tx (L.take j) [] 0 (fun z hz => by cases hz) y (by rw [← HI.out.ml, ← HM.out.2.choose_spec]; exact List.getElem_mem _) HYK.out
                    have h2 := HCJ.out
                    rw [if_pos HX1.out] at h2
                    rw [hyt] at h1
                    rw [List.length_append]
                    omega
                  have hadd : ∀ W, (Op.stringOp .add (baL yt) (baL xt)).run Tryz.prog W = .ok (.string (baL yt ++ baL xt)) W := fun W => run_string_add_sum W _ _ (by rw [baL_size, baL_size]; rw [List.length_append] at htl2; omega)
                  have hy2 : baL yt ++ baL xt = baL (yt ++ xt) := baL_append _ _
                  have hf := (show w6.ownsRow w.heap.size nT 4 (.slice (some ⟨g, 0, none⟩) n0 oc) n0 cs by
                    have h := own_keepT (W' := w6) HI.out.own fun g hg => HMB.out.keep g (HI.out.own.lt g hg).2
                    rw [HN0.out] at h
                    exact h).frozenAt (m * 4 + 1)
                  have HF := Lib.hid (fun w9 h9 => (mgi_join (w9 := w9) HI.out HN0.out HMB.out (by rw [HN0.out]; have := HM.out.1; omega) HM.out.2.choose_spec HM.out.1 HX1.out HYK.out (by rw [hyt]; omega) HST.out (Below.refl _ _) h9).drew)
                  rw [hyt] at HF
                  have z1 : (baL yt).size ≤ 1000000000 := by rw [baL_size]; rw [List.length_append] at htl2; omega
                  have z2 : (baL xt).size ≤ 1000000000 := by rw [baL_size]; rw [List.length_append] at htl2; omega
                  clear hyt htl2
                  go_wp2_with fail
                  go_region
                  go_wp2
                  refine ⟨⟨j + 1, _, _, by omega, ?_, Lib.hid (HF.out _ rfl)⟩, ?_⟩
                  · first | rfl | (rw [show (((j + 1) : Nat) : Int) = (j : Int) + 1 by omega])
                  · simp [intOf]; omega
                · have q2 : (yk == 1) = false := by simpa using hy1
                  have HYK := Lib.hid (show y.kd ≠ 1 by rw [hyk]; exact hy1)
                  clear hy1 hyk
                  have hs6 := HMB.out.lt
                  have hw6z := HMB.out.be.size
                  obtain ⟨w7, hw7⟩ : ∃ X, w6.alloc (.cells #[intV xk, sV xt, intV xn, .slice ua pm.length uc] nT (0, 0)) = X := ⟨_, rfl⟩
                  have k7 : w7.heap[w6.heap.size]? = some (.cells #[intV xk, sV xt, intV xn, .slice ua pm.length uc] nT (0, 0)) := by rw [← hw7]; exact World.alloc_heap_new _ _
                  have HB7 := Lib.hid (show Below w6.heap.size w6 w7 by rw [← hw7]; exact below_alloc _ _)
                  have HSn := Lib.hid (show w7.heap.size = w6.heap.size + 1 by rw [← hw7]; simp)
                  have HNWn := Lib.hid (World.news_of_block k7)
                  have HOWn := Lib.hid (show w7.ownsRow w.heap.size nT 4 (.slice (some ⟨g, 0, none⟩) n0 oc) n0 cs by
                    have h := own_keepT (W' := w7) HI.out.own fun g hg => by
                      have hl := (HI.out.own.lt g hg).2
                      exact (HB7.out.block g (by omega)).trans (HMB.out.keep g hl)
                    rw [HN0.out] at h
                    exact h)
                  have q7 : w.heap.size ≤ w7.heap.size := by have := HSn.out; omega
                  have HWn := Lib.hid hw7
                  clear hw7 k7
                  go_wp2_with (at_builtin; rw [HWn.out]; go_loud (refine wpList_append_lies _ (by rfl) _ _ lT (by rfl) w.heap.size nT i0 (.agg z4.toArray) 4 56 Tryz.underlying24 hi hz0 hz1 hz2 (by rfl) (by decide) _ n0 cs (by rfl) HOWn.out ⟨w6.heap.size, 0, none⟩ 1 1 [intV xk, sV xt, intV xn, .slice ua pm.length uc] (by rfl) (by rfl) HNWn.out (by intro u hu; simp only [List.mem_cons, List.mem_nil_iff, or_false] at hu; rcases hu with rfl | rfl | rfl | rfl <;> rfl) (by decide) (by unfold maxLen; omega) (by omega) (by omega) (w6.heap.size + 1) HSn.out ?_))
                  intro g9 cp w9 hown hgrow hat hlt9
                  have HF := Lib.hid (mgi_app HI.out HN0.out HMB.out HB7.out hown hgrow (by rcases hat with h | h; exact .inl h; exact .inr (by rw [HSn.out]; omega)) (by rw [HST.out]; exact push_app (m := n0) HN0.out.symm (fun _ k hk ek => (show k = m by have h1 := HM.out.1; omega) ▸ (fun e => HYK.out (by rw [← HM.out.2.choose_spec]; exact e)))))
                  clear hown hgrow hat hlt9
                  go_wp2
                  refine ⟨⟨j + 1, _, _, by omega, ?_, HF⟩, ?_⟩
                  · first | rfl | (rw [show (((j + 1) : Nat) : Int) = (j : Int) + 1 by omega])
                  · simp [intOf]; omega
              · have qn : decide ((0 : Int) < (n0 : Int)) = false := decide_eq_false (by omega)
                have qn2 : ¬ (0 : Int) < (n0 : Int) := by omega
                have hs6 := HMB.out.lt
                have hw6z := HMB.out.be.size
                obtain ⟨w7, hw7⟩ : ∃ X, w6.alloc (.cells #[intV xk, sV xt, intV xn, .slice ua pm.length uc] nT (0, 0)) = X := ⟨_, rfl⟩
                have k7 : w7.heap[w6.heap.size]? = some (.cells #[intV xk, sV xt, intV xn, .slice ua pm.length uc] nT (0, 0)) := by rw [← hw7]; exact World.alloc_heap_new _ _
                have HB7 := Lib.hid (show Below w6.heap.size w6 w7 by rw [← hw7]; exact below_alloc _ _)
                have HSn := Lib.hid (show w7.heap.size = w6.heap.size + 1 by rw [← hw7]; simp)
                have HNWn := Lib.hid (World.news_of_block k7)
                have HOWn := Lib.hid (show w7.ownsRow w.heap.size nT 4 (.slice oa n0 oc) n0 cs by
                  have h := own_keepT (W' := w7) HI.out.own fun g hg => by
                    have hl := (HI.out.own.lt g hg).2
                    exact (HB7.out.block g (by omega)).trans (HMB.out.keep g hl)
                  rw [HN0.out] at h
                  exact h)
                have q7 : w.heap.size ≤ w7.heap.size := by have := HSn.out; omega
                have HWn := Lib.hid hw7
                clear hw7 k7
                go_wp2_with (at_builtin; rw [HWn.out]; go_loud (refine wpList_append_lies _ (by rfl) _ _ lT (by rfl) w.heap.size nT i0 (.agg z4.toArray) 4 56 Tryz.underlying24 hi hz0 hz1 hz2 (by rfl) (by decide) _ n0 cs (by rfl) HOWn.out ⟨w6.heap.size, 0, none⟩ 1 1 [intV xk, sV xt, intV xn, .slice ua pm.length uc] (by rfl) (by rfl) HNWn.out (by intro u hu; simp only [List.mem_cons, List.mem_nil_iff, or_false] at hu; rcases hu with rfl | rfl | rfl | rfl <;> rfl) (by decide) (by unfold maxLen; omega) (by omega) (by omega) (w6.heap.size + 1) HSn.out ?_))
                intro g9 cp w9 hown hgrow hat hlt9
                have HF := Lib.hid (mgi_app HI.out HN0.out HMB.out HB7.out hown hgrow (by rcases hat with h | h; exact .inl h; exact .inr (by rw [HSn.out]; omega)) (by rw [HST.out]; exact push_app (m := n0) HN0.out.symm (fun _ k hk ek => absurd ek (by omega))))
                clear hown hgrow hat hlt9
                go_wp2
                refine ⟨⟨j + 1, _, _, by omega, ?_, HF⟩, ?_⟩
                · first | rfl | (rw [show (((j + 1) : Nat) : Int) = (j : Int) + 1 by omega])
                · simp [intOf]; omega
          · have q1 : (xk == 1) = false := by simpa using hk1
            have HX1 := Lib.hid hk1
            clear hk1 hsk
            by_cases hp0 : 0 < xp.length
            · have qp : decide ((0 : Int) < (xp.length : Int)) = true := decide_eq_true (by omega)
              have qp2 : (0 : Int) < (xp.length : Int) := by omega
              go_upto_region 6 with fail
              rw [HW3.out]
              have HR := Lib.hid (HREC.out w3 (HI.out.be.trans (H3.out.mono hws)))
              clear HREC
              go_wp2_with fail
              refine HR.out.mono ?_
              rintro e w5 ⟨u, rfl, hu, h5⟩
              have k5 := (h5.block _ (show wk.heap.size < w3.heap.size by omega)).trans HK3.out
              clear e0 e1 e2 e3
              obtain ⟨e0, e1, e2, e3⟩ := box4T k5
              have f3 := heap_free k5 3
              obtain ⟨pm, hpm⟩ : ∃ p, mrgL [] xp = p := ⟨_, rfl⟩
              have hpl : pm.length ≤ 9223372036854775807 := by
                have h1 := mrg_len xp []
                have h2 := HNM.out.2.2
                rw [hpm, List.length_nil] at h1
                omega
              rw [hpm] at hu HST
              obtain ⟨ua, uc, rfl, hui⟩ := id hu
              clear hui
              obtain ⟨w6, hw6⟩ : ∃ X, w5.setCell ⟨wk.heap.size, 3, none⟩ (.slice ua pm.length uc) = X := ⟨_, rfl⟩
              have HMB := Lib.hid (mgb_call HI.out.be HK3.out H3.out h5 hu HNM.out.2.1 HNM.out.1 hpl hw6)
              have HW6 := Lib.hid hw6
              clear hw6 h5 k5 hu hpm hpl HR
              go_upto_region 9 with fail
              rw [HW6.out]
              clear e0 e1 e2 e3 f3
              obtain ⟨e0, e1, e2, e3⟩ := box4T HMB.out.box
              have hs6 := HMB.out.lt
              have hw6z := HMB.out.be.size
              obtain ⟨w7, hw7⟩ : ∃ X, w6.alloc (.cells #[intV xk, sV xt, intV xn, .slice ua pm.length uc] nT (0, 0)) = X := ⟨_, rfl⟩
              have k7 : w7.heap[w6.heap.size]? = some (.cells #[intV xk, sV xt, intV xn, .slice ua pm.length uc] nT (0, 0)) := by rw [← hw7]; exact World.alloc_heap_new _ _
              have HB7 := Lib.hid (show Below w6.heap.size w6 w7 by rw [← hw7]; exact below_alloc _ _)
              have HSn := Lib.hid (show w7.heap.size = w6.heap.size + 1 by rw [← hw7]; simp)
              have HNWn := Lib.hid (World.news_of_block k7)
              have HOWn := Lib.hid (show w7.ownsRow w.heap.size nT 4 (.slice oa n0 oc) n0 cs by
                have h := own_keepT (W' := w7) HI.out.own fun g hg => by
                  have hl := (HI.out.own.lt g hg).2
                  exact (HB7.out.block g (by omega)).trans (HMB.out.keep g hl)
                rw [HN0.out] at h
                exact h)
              have q7 : w.heap.size ≤ w7.heap.size := by have := HSn.out; omega
              have HWn := Lib.hid hw7
              clear hw7 k7
              go_wp2_with (at_builtin; rw [HWn.out]; go_loud (refine wpList_append_lies _ (by rfl) _ _ lT (by rfl) w.heap.size nT i0 (.agg z4.toArray) 4 56 Tryz.underlying24 hi hz0 hz1 hz2 (by rfl) (by decide) _ n0 cs (by rfl) HOWn.out ⟨w6.heap.size, 0, none⟩ 1 1 [intV xk, sV xt, intV xn, .slice ua pm.length uc] (by rfl) (by rfl) HNWn.out (by intro u hu; simp only [List.mem_cons, List.mem_nil_iff, or_false] at hu; rcases hu with rfl | rfl | rfl | rfl <;> rfl) (by decide) (by unfold maxLen; omega) (by omega) (by omega) (w6.heap.size + 1) HSn.out ?_))
              intro g9 cp w9 hown hgrow hat hlt9
              have HF := Lib.hid (mgi_app HI.out HN0.out HMB.out HB7.out hown hgrow (by rcases hat with h | h; exact .inl h; exact .inr (by rw [HSn.out]; omega)) (by rw [HST.out]; exact push_app (m := n0) HN0.out.symm (fun e => absurd e HX1.out)))
              clear hown hgrow hat hlt9
              go_wp2
              refine ⟨⟨j + 1, _, _, by omega, ?_, HF⟩, ?_⟩
              · first | rfl | (rw [show (((j + 1) : Nat) : Int) = (j : Int) + 1 by omega])
              · simp [intOf]; omega
            · have qp : decide ((0 : Int) < (xp.length : Int)) = false := decide_eq_false (by omega)
              go_upto_region 6 with fail
              rw [HW3.out]
              have HMB := Lib.hid (mgb_none (pm := xp) (ua := sa) (uc := sc) HI.out.be HK3.out H3.out HNM.out.2.1 HNM.out.1 (by omega))
              rw [show mrgL [] xp = xp by rw [List.eq_nil_of_length_eq_zero (show xp.length = 0 by omega), mrgL]] at HST
              obtain ⟨pm, hpm⟩ : ∃ p, p = xp := ⟨_, rfl⟩
              obtain ⟨w6, hw6⟩ : ∃ p, p = w3 := ⟨_, rfl⟩
              clear HREC
              go_upto_region 9 with fail
              clear HW3 HK3 H3 hp0 qp s3
              subst hpm hw6
              obtain ⟨ua, hua⟩ : ∃ p, p = sa := ⟨_, rfl⟩
              obtain ⟨uc, huc⟩ : ∃ p, p = sc := ⟨_, rfl⟩
              subst hua huc
              have hs6 := HMB.out.lt
              have hw6z := HMB.out.be.size
              obtain ⟨w7, hw7⟩ : ∃ X, w6.alloc (.cells #[intV xk, sV xt, intV xn, .slice ua pm.length uc] nT (0, 0)) = X := ⟨_, rfl⟩
              have k7 : w7.heap[w6.heap.size]? = some (.cells #[intV xk, sV xt, intV xn, .slice ua pm.length uc] nT (0, 0)) := by rw [← hw7]; exact World.alloc_heap_new _ _
              have HB7 := Lib.hid (show Below w6.heap.size w6 w7 by rw [← hw7]; exact below_alloc _ _)
              have HSn := Lib.hid (show w7.heap.size = w6.heap.size + 1 by rw [← hw7]; simp)
              have HNWn := Lib.hid (World.news_of_block k7)
              have HOWn := Lib.hid (show w7.ownsRow w.heap.size nT 4 (.slice oa n0 oc) n0 cs by
                have h := own_keepT (W' := w7) HI.out.own fun g hg => by
                  have hl := (HI.out.own.lt g hg).2
                  exact (HB7.out.block g (by omega)).trans (HMB.out.keep g hl)
                rw [HN0.out] at h
                exact h)
              have q7 : w.heap.size ≤ w7.heap.size := by have := HSn.out; omega
              have HWn := Lib.hid hw7
              clear hw7 k7
              go_wp2_with (at_builtin; rw [HWn.out]; go_loud (refine wpList_append_lies _ (by rfl) _ _ lT (by rfl) w.heap.size nT i0 (.agg z4.toArray) 4 56 Tryz.underlying24 hi hz0 hz1 hz2 (by rfl) (by decide) _ n0 cs (by rfl) HOWn.out ⟨w6.heap.size, 0, none⟩ 1 1 [intV xk, sV xt, intV xn, .slice ua pm.length uc] (by rfl) (by rfl) HNWn.out (by intro u hu; simp only [List.mem_cons, List.mem_nil_iff, or_false] at hu; rcases hu with rfl | rfl | rfl | rfl <;> rfl) (by decide) (by unfold maxLen; omega) (by omega) (by omega) (w6.heap.size + 1) HSn.out ?_))
              intro g9 cp w9 hown hgrow hat hlt9
              have HF := Lib.hid (mgi_app HI.out HN0.out HMB.out HB7.out hown hgrow (by rcases hat with h | h; exact .inl h; exact .inr (by rw [HSn.out]; omega)) (by rw [HST.out]; exact push_app (m := n0) HN0.out.symm (fun e => absurd e HX1.out)))
              clear hown hgrow hat hlt9
              go_wp2
              refine ⟨⟨j + 1, _, _, by omega, ?_, HF⟩, ?_⟩
              · first | rfl | (rw [show (((j + 1) : Nat) : Int) = (j : Int) + 1 by omega])
              · simp [intOf]; omega
      · obtain rfl : j = L.length := by omega
        have i1' : decide ((L.length : Int) < (L.length : Int)) = false := decide_eq_false (by omega)
        have HZ := Lib.hid (show VsAt wk (fun b => w.heap.size ≤ b) (.slice oa n0 oc) (mrgL [] L) by
          have h := HI.out.ml
          rw [List.take_length] at h
          rw [← h]
          have h1 := HI.out.own
          have h2 := vs_of_own h1 (HI.out.cs.mono fun b _ hp => hp.1) (fun g hg => (HI.out.own.lt g hg).1)
          exact h2)
        have HB := Lib.hid HI.out.be
        go_wp2
        go_ret
        exact ⟨_, rfl, HZ.out, HB.out⟩
end Go.Proofs.YtmfcepfagbkceaaGreatDoor
