/- Stage 10 (transcript): TpMerge, put together by merge10.py. -/
import Derived.Test.YtmfcepfagbkceaaGreatDoorOy5
import Derived.Test.YtmfcepfagbkceaaGreatDoorOy3
import Derived.Sort.CutIn
namespace Go.Proofs.YtmfcepfagbkceaaGreatDoor
set_option linter.unusedSimpArgs false
set_option linter.unusedVariables false
set_option maxRecDepth 100000
open Go.RowKit Go.Shelf Go.Deep
attribute [local go_sem] Oper.semAt_some wide_fnT
theorem cell_obj {W : World} {b i : Nat} {v : Value} (h : W.cell? ⟨b, i, none⟩ = some v) : ∃ c t f, W.heap[b]? = some (.cells c t f) := by
  unfold World.cell? at h
  split at h
  · rename_i c t f hb
    exact ⟨c, t, f, hb⟩
  · cases h
def KeepC (W W' : World) : Prop := ∀ (b : Nat) (c : Array Value) (t : TypeId) (f : Nat × Nat), W.heap[b]? = some (Obj.cells c t f) → W'.heap[b]? = W.heap[b]?
theorem vat_keepC {W W' : World} {P : Nat → Prop} (hk : KeepC W W') (hs : W.heap.size ≤ W'.heap.size) : (∀ x, ∀ v, VAt W P v x → VAt W' P v x) ∧ ∀ l, ∀ b off, ItsAt W P b off l → ItsAt W' P b off l := by
  have hc : ∀ b off v, W.cell? ⟨b, off, none⟩ = some v → W'.cell? ⟨b, off, none⟩ = some v := fun b off v h => by
    obtain ⟨c, t, f, hb⟩ := cell_obj h
    exact (World.cell?_of_block (a := ⟨b, off, none⟩) (hk b c t f hb)).trans h
  refine Nd.both (fun k t n l ih v h => ?_) (fun b off _ => by rw [ItsAt]; trivial) (fun x l ih1 ih2 b off h => ?_)
  · rw [VAt] at h ⊢
    obtain ⟨h1, h2, h3, h4, a, c, rfl, h⟩ := h
    refine ⟨h1, h2, h3, h4, a, c, rfl, fun h0 => ?_⟩
    obtain ⟨b, off, ha, hp, hb, hi⟩ := h h0
    exact ⟨b, off, ha, hp, Nat.lt_of_lt_of_le hb hs, ih b off hi⟩
  · rw [ItsAt] at h ⊢
    obtain ⟨⟨s, h0, h1, h2, h3, h4⟩, h5⟩ := h
    exact ⟨⟨s, hc _ _ _ h0, hc _ _ _ h1, hc _ _ _ h2, hc _ _ _ h3, ih1 _ h4⟩, ih2 _ _ h5⟩
theorem VsAt.keepC {W W' : World} {P : Nat → Prop} {v : Value} {l : List Nd} (h : VsAt W P v l) (hk : KeepC W W') (hs : W.heap.size ≤ W'.heap.size) : VsAt W' P v l := by
  obtain ⟨a, c, rfl, h⟩ := h
  refine ⟨a, c, rfl, fun h0 => ?_⟩
  obtain ⟨b, off, ha, hp, hb, hi⟩ := h h0
  exact ⟨b, off, ha, hp, Nat.lt_of_lt_of_le hb hs, (vat_keepC hk hs).2 l b off hi⟩
theorem CsOf.keepC {W W' : World} {P : Nat → Prop} (hk : KeepC W W') (hs : W.heap.size ≤ W'.heap.size) : ∀ {l : List Nd} {cs : List Value}, CsOf W P cs l → CsOf W' P cs l
  | [], cs, h => by rw [CsOf] at h ⊢; exact h
  | x :: l, cs, h => by
    rw [CsOf] at h ⊢
    obtain ⟨s, rest, e, hv, h⟩ := h
    exact ⟨s, rest, e, (vat_keepC hk hs).1 _ _ hv, CsOf.keepC hk hs h⟩
theorem keepC_grown {A B : World} {row : Option Nat} {D : Nat} (hg : A.grownBy B row) (hr : ∀ r, row = some r → D ≤ r ∧ ∃ o : Obj, A.heap[r]? = some o ∧ o.isCells = false) : KeepC A B := fun b c t f hb =>
  hg.block b (heap_ltT hb) (fun e => by obtain ⟨_, o, ho, hc⟩ := hr b e.symm; rw [hb] at ho; cases ho; cases hc)
mutual
def jnN : Nd → Bool
  | .mk _ _ _ p => decide ((txts p).length ≤ 1000000000) && jnL p
def jnL : List Nd → Bool
  | [] => true
  | x :: l => jnN x && jnL l
end
def JnOk (l : List Nd) : Prop := (txts l).length ≤ 1000000000 ∧ jnL l = true
theorem jn_mem : ∀ {l : List Nd}, jnL l = true → ∀ x ∈ l, JnOk x.ps
  | [], _, x, hx => by cases hx
  | y :: l, h, x, hx => by
    rw [jnL, Bool.and_eq_true] at h
    rcases List.mem_cons.1 hx with rfl | hx
    · obtain ⟨k, t, n, p⟩ := x
      have h1 := h.1
      rw [jnN, Bool.and_eq_true, decide_eq_true_eq] at h1
      exact h1
    · exact jn_mem h.2 x hx
theorem txts_cons (x : Nd) (l : List Nd) : txts (x :: l) = x.tx ++ txts l := by unfold txts; rw [List.flatMap_cons]
theorem txts_sub {a b : List Nd} (h : List.Sublist a b) : (txts a).length ≤ (txts b).length := by
  induction h with
  | slnil => exact Nat.le_refl _
  | cons x _ ih => rw [txts_cons, List.length_append]; omega
  | cons_cons x _ ih => rw [txts_cons, txts_cons, List.length_append, List.length_append]; omega
theorem Rn.len {L : List Nd} (p : Rn L) : p.run.length = p.e := by
  have := p.hk
  unfold Rn.run
  rw [List.length_take, List.length_drop]
  omega
theorem Rn.sub {L : List Nd} (p : Rn L) : List.Sublist p.run L := ((List.take_sublist _ _).trans (List.drop_sublist _ _)).trans List.filter_sublist
theorem Rn.lt {L : List Nd} (p : Rn L) : p.k < (fltL L).length := by have h1 := p.hk; have h2 := p.he; omega
theorem Rn.first {L : List Nd} (p : Rn L) : mrun p.run = .mk ((fltL L)[p.k]'p.lt).kd (txts p.run) ((fltL L)[p.k]'p.lt).nm (mrgL [] ((fltL L)[p.k]'p.lt).ps) := by
  have h1 := p.he
  obtain ⟨d, hd⟩ : ∃ d, p.e = d + 1 := ⟨p.e - 1, by omega⟩
  have : p.run = (fltL L)[p.k]'p.lt :: ((fltL L).drop (p.k + 1)).take d := by
    unfold Rn.run
    rw [List.drop_eq_getElem_cons p.lt, hd, List.take_succ_cons]
  rw [this, mrun]
  rfl
theorem run_row {A : Nat} {L : List Nd} {p : Rn L} {cs : List Value} {W : World} (h : RowG A (fltL L) p.g cs W) : RowAt W (.slice (some ⟨p.g, p.k * 4, none⟩) p.e p.c) p.run := by
  refine ⟨_, _, by rw [p.len], fun _ => ⟨p.g, p.k * 4, rfl, by obtain ⟨cur, h1, _⟩ := h; exact heap_ltT h1, fun j hj => ?_⟩⟩
  rw [p.len] at hj
  have hk := p.hk
  obtain ⟨sa, sc, c0, c1, c2, c3, _⟩ := h.at (show p.k + j < (fltL L).length by omega)
  have he : p.run[j]'(by rw [p.len]; exact hj) = (fltL L)[p.k + j]'(by omega) := by
    unfold Rn.run
    rw [List.getElem_take, List.getElem_drop]
  rw [show (p.k + j) * 4 = p.k * 4 + j * 4 by omega] at c0 c1 c2 c3
  rw [he]
  exact ⟨sa, _, sc, c0, c1, c2, c3⟩
abbrev PM (N : Nat) (u : Value) : Nat → Prop := fun b => N < b ∧ u.ownBlock ≠ some b
def MgJ (w w3 : World) {L : List Nd} (pre : List (Rn L)) (W : World) : Prop :=
  ∃ u cs, Boxed W w.heap.size lT u ∧ W.ownsRow w.heap.size nT 4 u pre.length cs ∧ CsOf W (PM w.heap.size u) cs (pre.map fun p => mrun p.run) ∧ Below w.heap.size w3 W
theorem MgJ.own {w w3 : World} {L : List Nd} (h3 : w.heap.size < w3.heap.size) : OwnFrom w3.heap.size (MgJ w w3 (L := L)) := by
  rintro pre A B row ⟨u, cs, hb, hrow, hcs, hB⟩ hg hr
  have hk := keepC_grown hg hr
  refine ⟨u, cs, cells_grownT hg hr hb, own_keepT hrow fun g e => ?_, hcs.keepC hk hg.size, hB.grown hg (by have := hB.size; omega) (fun k e => by have := (hr k e).1; omega)⟩
  rcases hrow.2 with ⟨rfl, _⟩ | ⟨g', cap, cur, rfl, _, hg', _⟩
  · cases e
  · have : g' = g := by simpa [Value.ownBlock] using e
    subst this
    exact hk _ _ _ _ hg'
theorem MgJ.gn {w w3 : World} {L : List Nd} (h3 : w.heap.size < w3.heap.size) {pre : List (Rn L)} {W : World} (h : MgJ w w3 pre W) : GN w.heap.size w3.heap.size (some w.heap.size) W := by
  obtain ⟨u, cs, hb, hrow, _, hB⟩ := h
  exact ⟨by omega, hB.size, fun R e => by cases e; exact h3, fun b ho => by
    rw [ownN_of hb] at ho
    obtain ⟨n', c', rfl⟩ := ho
    exact (hrow.lt b rfl).2⟩
theorem okr_own {L : List Nd} {A D : Nat} (hA : A ≤ D) (p : Rn L) : OwnFrom D (fun (_ : Unit) W => OkR A p W) := by
  rintro _ X Y row ⟨cs, cur, h1, h2, h3⟩ hg hr
  exact ⟨cs, cur, cells_grownT hg hr h1, h2, h3.keepC (keepC_grown hg hr) hg.size⟩
theorem mgj_push {w w3 : World} {L : List Nd} {pre : List (Rn L)} {p : Rn L} {u u' : Value} {cs : List Value} {X W : World} {xk xn : Int} {t : Bs} {pm : List Nd} {ma : Option Addr} {mc Z : Nat} (hrow : X.ownsRow w.heap.size nT 4 u pre.length cs)
    (hcs : CsOf X (PM w.heap.size u) cs (pre.map fun p => mrun p.run)) (hB : Below w.heap.size w3 X) (hp : Pushed w.heap.size w.heap.size w.heap.size u pre.length cs [intV xk, sV t, intV xn, .slice ma pm.length mc] X W u')
    (hv : VAt X (fun b => Z ≤ b) (.agg #[intV xk, sV t, intV xn, .slice ma pm.length mc]) (.mk xk t xn pm)) (hZ : w.heap.size < Z) (hu : ∀ b, u.ownBlock = some b → b < Z) (hm : mrun p.run = .mk xk t xn pm) : MgJ w w3 (pre ++ [p]) W := by
  have hall : CsOf X (PM w.heap.size u) (cs ++ [intV xk, sV t, intV xn, .slice ma pm.length mc]) ((pre ++ [p]).map fun p => mrun p.run) := by
    rw [List.map_append, List.map_cons, List.map_nil, hm]
    refine hcs.app ?_
    rw [CsOf]
    refine ⟨_, [], rfl, (vat_mono (fun b _ hb => ⟨by have hb : Z ≤ b := hb; omega, fun e => by have := hu b e; have hb : Z ≤ b := hb; omega⟩)).1 _ _ hv, by rw [CsOf]⟩
  refine ⟨u', _, hp.box, by rw [List.length_append]; exact hp.row, ?_, hB.trans hp.below⟩
  have h1 := (hall.mono (P' := fun b => PM w.heap.size u b ∧ u'.ownBlock ≠ some b) fun b hlt hb => ⟨hb, fun e => by
    rcases hp.fresh b e with h | h
    · exact hb.2 h
    · omega⟩).keep (W' := W) (fun b hb hlt => hp.same b hlt (fun e => hb.1.2 e.symm) (by have := hb.1.1; omega)) hp.others.size
  exact h1.mono fun b _ hb => ⟨hb.1.1, hb.2⟩
set_option maxHeartbeats 16000000 in
theorem mergeT_any : ∀ (N : Nat) (L : List Nd), tots L ≤ N → tots L ≤ 5000 → JnOk L → ∀ (v : Value) (P : Nat → Prop) (w : World), VsAt w P v L →
    Calls Tryz.prog 26 #[v] w (MergePost L w) := by
  intro N
  induction N using Nat.strongRecOn with
  | _ N ih =>
    intro L hN hMx htb v P w hv
    have HV := Lib.hid hv
    obtain ⟨a, c, rfl, hvi⟩ := id hv
    clear hvi
    have hll := len_tots L
    have IH := Lib.hid ih
    have HTB := Lib.hid htb
    have HST := Lib.hid (runs_stops w P L _ hv (by omega))
    obtain ⟨i0, hi, hz0, hz1, hz2⟩ := info_parts info_nd
    clear hv ih htb
    refine (callsIn_wide (n := 9)).1 ?_
    refine callsIn_of_wp_marks Tryz.func26 rfl trivial ?_ rfl
    simp only [Tryz.ntmps26, List.size_toArray, List.length_cons, List.length_nil, Nat.reduceAdd, Nat.reduceSub, Array.replicate_succ, Array.replicate_zero, List.push_toArray, List.append_toArray, List.nil_append, List.cons_append]
    obtain ⟨w3, hw3⟩ : ∃ X, ((w.alloc (.cells #[.slice none 0 0] lT)).alloc (.cells #[.slice a L.length c] lT (0, 0))) = X := ⟨_, rfl⟩
    obtain ⟨s3, k1, k2, kb⟩ := heap_allocT2 w _ _ hw3
    have HW3 := Lib.hid hw3
    have HKK := Lib.hid (And.intro s3 (And.intro k1 (And.intro k2 kb)))
    clear hw3 s3 k1 k2 kb
    gi_wp2_with (gi_at_call 61; refine (callsIn_wide.2 (runs_any _ _ _ _)).mono ?_; rintro e w' ⟨rfl, rfl⟩)
    rw [HW3.out]
    obtain ⟨s3, k1, k2, kb⟩ := HKK.out
    have h3 : w.heap.size < w3.heap.size := by omega
    have h3' : w.heap.size + 1 < w3.heap.size := by omega
    clear s3
    refine wpIn_range_e rfl (by omega) (gf := 85) (lb := #[.pointer (some ⟨w.heap.size + 1, 0, none⟩)]) rfl trivial Tryz.call85
      (HST.out w3.heap.size (some w.heap.size) (w.heap.size + 1) w3 kb k2) (fun h k => h.trans k) (fun W l o o' hl ho hc _ => KpN.put (r := some w.heap.size) (by omega) (fun R e => by cases e; omega) W l o o' hl ho hc) (fun _ => rfl)
      (MgJ w w3) (MgJ.own h3) (fun pre W h => h.gn h3)
      ⟨_, [], k1, World.ownsRow_nil _ _ _ _, by show CsOf _ _ [] []; rw [CsOf], Below.refl _ _⟩
      (fun p a' X => OkR w.heap.size p X ∧ a' = { tmps := #[Value.slice a L.length c, undef, .slice none 0 0, .pointer (some ⟨w.heap.size, 0, none⟩), .slice (some ⟨p.g, p.k * 4, none⟩) p.e p.c, undef, Value.slice a L.length c, .func (.func 85) #[] #[.pointer (some ⟨w.heap.size + 1, 0, none⟩)], .slice (some ⟨p.g, p.k * 4, none⟩) p.e p.c, undef, undef, undef, undef, undef, undef, undef, undef, undef, undef, undef, undef, undef, undef, undef, undef, undef], defers := [] })
      (fun p a' _ X Y row h hg hr => ⟨okr_own (D := w3.heap.size) (by omega) p () X Y row h.1 hg hr, h.2⟩)
      ?assign ?body ?done
    case assign =>
      intro l pre p X K hI hok hK
      gi_wp2
      exact hK _ _ ((KeepsOthers.refl X).from _) (KpN.refl _ _ _ _) hI ⟨hok, rfl⟩
    case body =>
      intro l pre p a' X hl hI hA hN
      obtain ⟨⟨cs2, hrg⟩, rfl⟩ := hA
      have hgn := hI.gn h3
      obtain ⟨u, cs, hb, hrow, hcs, hB⟩ := hI
      have hsX := hB.size
      obtain ⟨x, hx⟩ : ∃ x, (fltL L)[p.k]'p.lt = x := ⟨_, rfl⟩
      have hfst := p.first
      obtain ⟨sa, sc, c0, c1, c2, c3, hxv⟩ := hrg.at p.lt
      rw [hx] at c0 c1 c2 c3 hxv hfst
      have hxL : x ∈ L := by rw [← hx]; exact (List.mem_filter.1 (List.getElem_mem p.lt)).1
      have hx2 := jn_mem HTB.out.2 x hxL
      have htx : tots x.ps < tots L := by
        obtain ⟨i, hi, e⟩ := List.mem_iff_getElem.1 hxL
        have h1 := (tots_mem hi).1
        rw [e, tot_ps] at h1
        omega
      have hrl : p.e ≤ L.length := by have h1 := p.hk; have h2 : (fltL L).length ≤ L.length := List.length_filter_le _ _; omega
      have htl : (txts p.run).length ≤ 1000000000 := Nat.le_trans (txts_sub p.sub) HTB.out.1
      obtain ⟨t, ht⟩ : ∃ t, txts p.run = t := ⟨_, rfl⟩
      rw [ht] at hfst htl
      have HJN := Lib.hid (fun W (h : Below X.heap.size X W) => joined_any p.run _ W (run_row (hrg.below h)) (by rw [p.len]; omega) (by rw [ht]; omega) t ht)
      have hnm := vat_nmR hxv
      have hpl := vat_pl hxv
      obtain ⟨xk, hxk⟩ : ∃ z, x.kd = z := ⟨_, rfl⟩
      obtain ⟨xt, hxt⟩ : ∃ z, x.tx = z := ⟨_, rfl⟩
      obtain ⟨xn, hxn⟩ : ∃ z, x.nm = z := ⟨_, rfl⟩
      obtain ⟨xp, hxp⟩ : ∃ z, x.ps = z := ⟨_, rfl⟩
      have hparts : VsAt X (fun b => b < w.heap.size) (.slice sa x.ps.length sc) x.ps := parts_at hxv (Below.refl _ _)
      rw [hxk, hxn, hxp] at hfst
      rw [hxk] at c0
      rw [hxt] at c1
      rw [hxn] at c2 hnm
      rw [hxp] at c3 hparts htx hx2 hpl
      have HREC := Lib.hid (fun W (h : VsAt W (fun b => b < w.heap.size) (.slice sa xp.length sc) xp) => IH.out (tots xp) (by omega) xp (Nat.le_refl _) (by omega) hx2 _ _ W h)
      obtain ⟨pm, hpm⟩ : ∃ q, mrgL [] xp = q := ⟨_, rfl⟩
      have hpml : pm.length ≤ 9223372036854775807 := by
        have h1 := mrg_len xp []
        rw [hpm, List.length_nil] at h1
        omega
      rw [hpm] at hfst
      obtain ⟨X2, hX2⟩ : ∃ z, X.alloc (.cells #[intV xk, sV xt, intV xn, .slice sa xp.length sc] nT (0, 0)) = z := ⟨_, rfl⟩
      have b2 : Below X.heap.size X X2 := by rw [← hX2]; exact below_alloc _ _
      have n2 : X2.heap[X.heap.size]? = some (.cells #[intV xk, sV xt, intV xn, .slice sa xp.length sc] nT (0, 0)) := by rw [← hX2]; exact World.alloc_heap_new _ _
      have p0 : (0 : Int) < (p.e : Int) := by have := p.he; omega
      have HJ2 := Lib.hid (HJN.out X2 b2)
      have HI := Lib.hid (And.intro hb (And.intro hrow (And.intro hcs (And.intro hB hgn))))
      have HPT := Lib.hid hparts
      have HFN := Lib.hid (And.intro hfst (And.intro hpm (And.intro hpml (And.intro hnm htl))))
      have HX2 := Lib.hid hX2
      have HB2 := Lib.hid (And.intro b2 n2)
      obtain ⟨pg, hpg⟩ : ∃ z, p.g = z := ⟨_, rfl⟩
      obtain ⟨pk, hpk⟩ : ∃ z, p.k = z := ⟨_, rfl⟩
      obtain ⟨pe, hpe⟩ : ∃ z, p.e = z := ⟨_, rfl⟩
      obtain ⟨pc, hpc⟩ : ∃ z, p.c = z := ⟨_, rfl⟩
      rw [hpg, hpk, hpe, hpc] at HJ2 ⊢
      rw [hpg, hpk] at c0 c1 c2 c3
      rw [hpe] at p0
      obtain ⟨e0, e1, e2, e3⟩ := box4T n2
      clear hb hrow hcs hB hgn hparts hfst hpm hpml hnm htl hX2 b2 n2 hxk hxt hxn hxp hx hxL hx2 htx hrg hxv hpg hpk hpe hpc HJN ht hrl hpl
      gi_upto_region 5 with fail
      rw [HX2.out]
      clear c0 c1 c2 c3
      gi_wp2_with fail
      refine (CallsIn.inRound l (callsIn_wide.2 HJ2.out)).mono ?_
      rintro e' X3 ⟨rfl, g3⟩
      have n3 := (g3.block _ (heap_ltT HB2.out.2)).trans HB2.out.2
      clear e0 e1 e2 e3 HJ2
      obtain ⟨e0, e1, e2, e3⟩ := box4T n3
      have f1 := heap_free n3 1
      obtain ⟨X4, hX4⟩ : ∃ z, X3.setCell ⟨X.heap.size, 1, none⟩ (sV t) = z := ⟨_, rfl⟩
      have n4 : X4.heap[X.heap.size]? = some (.cells #[intV xk, sV t, intV xn, .slice sa xp.length sc] nT (0, 0)) := by rw [← hX4]; exact set_step 1 _ n3
      have b4 : Below X.heap.size X X4 := by rw [← hX4]; exact (below_then HB2.out.1 g3).setCell (p := ⟨X.heap.size, 1, none⟩) (Nat.le_refl _) _
      have s4 : X.heap.size < X4.heap.size := heap_ltT n4
      have HX4 := Lib.hid hX4
      have HB4 := Lib.hid (And.intro b4 n4)
      have HR := Lib.hid (HREC.out X4 (HPT.out.below b4))
      clear n3 g3 hX4 n4 b4 HREC
      gi_upto_region 6 with fail
      rw [HX4.out]
      clear e0 e1 e2 e3 f1 HX4 HX2
      obtain ⟨e0, e1, e2, e3⟩ := box4T HB4.out.2
      gi_wp2_with fail
      refine (CallsIn.inRound l (callsIn_wide.2 HR.out)).mono ?_
      rintro e' X5 ⟨mu, rfl, hmu, g5⟩
      rw [HFN.out.2.1] at hmu
      obtain ⟨ma, mc, rfl, hmi⟩ := id hmu
      clear hmi
      have n5 := (g5.block _ (heap_ltT HB4.out.2)).trans HB4.out.2
      clear e0 e1 e2 e3 HR
      obtain ⟨e0, e1, e2, e3⟩ := box4T n5
      have f3 := heap_free n5 3
      obtain ⟨X1, hX1⟩ : ∃ z, X5.setCell ⟨X.heap.size, 3, none⟩ (.slice ma pm.length mc) = z := ⟨_, rfl⟩
      have n1 : X1.heap[X.heap.size]? = some (.cells #[intV xk, sV t, intV xn, .slice ma pm.length mc] nT (0, 0)) := by rw [← hX1]; exact set_step 3 _ n5
      have b1 : Below X.heap.size X X1 := by rw [← hX1]; exact (HB4.out.1.trans (g5.mono (by omega))).setCell (p := ⟨X.heap.size, 3, none⟩) (Nat.le_refl _) _
      have hmu1 : VsAt X1 (fun b => X4.heap.size ≤ b) (.slice ma pm.length mc) pm := hmu.keep (fun b hb _ => by rw [← hX1]; exact Below.heap_setCell _ _ _ _ (by show b ≠ X.heap.size; have hb : X4.heap.size ≤ b := hb; omega)) (by rw [← hX1]; simp [World.setCell])
      have HX1 := Lib.hid hX1
      have HN1 := Lib.hid (And.intro n1 (And.intro b1 hmu1))
      clear n5 g5 hX1 n1 b1 hmu hmu1
      gi_upto_region 7 with fail
      rw [HX1.out]
      clear e0 e1 e2 e3 f3 HX1 HB4 HB2 HPT
      obtain ⟨hb, hrow, hcs, hB, hgn⟩ := HI.out
      obtain ⟨hx1, b1, hmu1⟩ := HN1.out
      have hb1 : Boxed X1 w.heap.size lT u := boxed_belowT hb b1
      have hrow1 := own_keepT hrow (fun g hg => b1.block g (hrow.lt g hg).2)
      have hcs1 := hcs.keep (fun b _ hlt => b1.block b hlt) b1.size
      have hB1 := hB.trans (b1.mono (by omega))
      have hK1 : KpN w.heap.size w3.heap.size (some w.heap.size) X X1 := KpN.of_below b1 (by omega) (fun R e => by cases e; omega)
      have hO1 := keeps_belowT b1
      have hne : u.ownBlock ≠ some X.heap.size := fun e => Nat.lt_irrefl _ (hrow.lt _ e).2
      have HUZ := Lib.hid (show ∀ b, u.ownBlock = some b → b < X4.heap.size from fun b e => Nat.lt_trans (hrow.lt b e).2 s4)
      have HVN := Lib.hid (show VAt X1 (fun b => X4.heap.size ≤ b) (.agg #[intV xk, sV t, intV xn, .slice ma pm.length mc]) (.mk xk t xn pm) from vat_mk HFN.out.2.2.2.1.1 HFN.out.2.2.2.1.2 (by have := HFN.out.2.2.2.2; omega) HFN.out.2.2.1 hmu1)
      have hZ : w.heap.size < X4.heap.size := by omega
      obtain ⟨n0, hn0⟩ : ∃ n0, pre.length = n0 := ⟨_, rfl⟩
      have hln : n0 ≤ 5000 := by omega
      rw [hn0] at hrow1
      obtain ⟨ua, uc, rfl⟩ : ∃ ua uc, u = .slice ua n0 uc := by
        rcases hrow1.2 with ⟨rfl, hn⟩ | ⟨g, cap, cur, rfl, _⟩
        · exact ⟨none, 0, by rw [hn]⟩
        · exact ⟨_, _, rfl⟩
      obtain ⟨B7, hB7⟩ : ∃ z, X.heap.size = z := ⟨_, rfl⟩
      rw [hB7] at hx1 hne hsX
      have HSA := Lib.hid (show X1.drew.cell? ⟨w.heap.size, 0, none⟩ = some (.slice ua n0 uc) from hb1.cell)
      have HSN7 := Lib.hid (show X1.drew.cell? ⟨B7, 0, none⟩ = some (intV xk) ∧ X1.drew.cell? ⟨B7, 1, none⟩ = some (sV t) ∧ X1.drew.cell? ⟨B7, 2, none⟩ = some (intV xn) ∧ X1.drew.cell? ⟨B7, 3, none⟩ = some (.slice ma pm.length mc) from box4T hx1)
      have HE := Lib.hid (And.intro hb1 (And.intro hrow1 (And.intro hx1 (And.intro hB1 (And.intro hK1 (And.intro hO1 hne))))))
      have hs1x := hB1.size
      have HNN := Lib.hid (And.intro hn0 hcs1)
      rw [hB7]
      clear hb hrow hcs hB hgn hb1 hrow1 hx1 hB1 hK1 hO1 hn0 hcs1 b1 hmu1 HN1 HI hB7
      gi_wp2_with fail
      refine wpIn_region_roundT (by kernel_rfl) (by kernel_rfl) (wpAny_of_k (S := fun W' => W'.cell? ⟨w.heap.size, 0, none⟩ = some (.slice ua n0 uc)) (S' := fun W' => W'.cell? ⟨B7, 0, none⟩ = some (intV xk) ∧ W'.cell? ⟨B7, 1, none⟩ = some (sV t) ∧ W'.cell? ⟨B7, 2, none⟩ = some (intV xn) ∧ W'.cell? ⟨B7, 3, none⟩ = some (.slice ma pm.length mc)) (k := 4) _ _ _ _ ?_)
      change wpAnyK _ _ _ _ _ _ _ 8 _ _ X1.drew
      refine wpAnyK_takeD (i := 1) (v := .agg #[intV xk, sV t, intV xn, .slice ma pm.length mc]) (some 20) rfl rfl (by kernel_rfl) (by kernel_rfl) (by kernel_rfl) (by decide) (fun _ _ _ h => h) (Or.inl ⟨by rfl, fun w' hw' => ?_⟩) (fun _ => HSA.out) (HSN7.out) ?_
      · obtain ⟨b0, b1, b2, b3⟩ := hw'; go_simp
      (try simp only [Act.put, List.setIfInBounds_toArray, List.set_cons_zero, List.set_cons_succ])
      refine wpAnyK_takeL (i := 0) (v := .slice ua n0 uc) (some 19) rfl rfl rfl (by kernel_rfl) (by kernel_rfl) (by kernel_rfl) (by kernel_rfl) (by kernel_rfl) (by decide) (fun _ _ _ h => h) (Or.inl ⟨by rfl, fun w' hw' => ?_⟩) (HSA.out) (HSN7.out) ?_
      · have b0 := hw'; go_simp
      (try simp only [Act.put, List.setIfInBounds_toArray, List.set_cons_zero, List.set_cons_succ])
      refine wpAnyK_takeD (i := 2) (v := .int .i64 n0) (some 21) rfl rfl (by kernel_rfl) (by kernel_rfl) (by kernel_rfl) (by decide) (fun _ _ _ h => h) (Or.inl ⟨by rfl, fun w' hw' => ?_⟩) (fun _ => HSA.out) (HSN7.out) ?_
      · go_simp
      (try simp only [Act.put, List.setIfInBounds_toArray, List.set_cons_zero, List.set_cons_succ])
      refine wpAnyK_all (rs := [3]) (by kernel_rfl) (by simp) ?_
      intro i' hi'
      obtain rfl := List.mem_singleton.1 hi'
      clear hi'
      refine wpOp_step rfl fun K hK => ?_
      go_simp
      obtain ⟨w5, hw5⟩ : ∃ x, (X1.alloc (.cells #[.int .i64 0, .string ⟨#[]⟩, .int .i64 0, .slice none 0 0] nT)).drew = x := ⟨_, rfl⟩
      have h5B : Below X1.heap.size X1 w5 := by rw [← hw5]; exact ((Below.refl _ X1).alloc (Nat.le_refl _) _).drew
      have h5s : w5.heap.size = X1.heap.size + 1 := by rw [← hw5]; simp
      have h5n : w5.heap[X1.heap.size]? = some (.cells #[.int .i64 0, .string ⟨#[]⟩, .int .i64 0, .slice none 0 0] nT (0, 0)) := by rw [← hw5]; exact World.alloc_heap_new X1 _
      obtain ⟨hb1, hrow1, hx1, hB1, hK1, hO1, hne⟩ := HE.out
      have hA1 := heap_ltT (show X1.heap[w.heap.size]? = some (.cells #[.slice ua n0 uc] lT (0, 0)) from hb1)
      have HSA5 := Lib.hid (show w5.cell? ⟨w.heap.size, 0, none⟩ = some (.slice ua n0 uc) from (h5B.cell (p := ⟨w.heap.size, 0, none⟩) hA1).trans hb1.cell)
      have HSN5 := Lib.hid (box4T ((h5B.block B7 (heap_ltT hx1)).trans hx1))
      have HO5 := Lib.hid (own_keepT hrow1 fun g hg => h5B.block g (hrow1.lt g hg).2)
      have HNW := Lib.hid (World.news_of_block h5n)
      have HG5 := Lib.hid ((below_grownT h5B).but (Value.slice ua n0 uc).ownBlock)
      rw [hw5]
      clear hb1 hrow1 hx1 hB1 hK1 hO1 hne hw5 h5n h5B hA1
      refine hK _ _ ⟨fun _ => HSA5.out, HSN5.out, ?_⟩
      clear hK K
      (try simp only [Act.put, List.setIfInBounds_toArray, List.set_cons_zero, List.set_cons_succ])
      refine wpAnyK_all (rs := [4]) (by kernel_rfl) (by simp) ?_
      intro i' hi'
      obtain rfl := List.mem_singleton.1 hi'
      clear hi'
      refine wpOp_step rfl fun K hK => ?_
      refine step_append_lies _ (by rfl) _ _ lT (by rfl) w.heap.size nT i0 (.agg #[.int .i64 0, .string ⟨#[]⟩, .int .i64 0, .slice none 0 0]) 4 56 Tryz.underlying24 hi hz0 hz1 hz2 (by rfl) (by decide) (.slice ua n0 uc) n0 cs (by rfl) HO5.out ⟨X1.heap.size, 0, none⟩ 1 1 z4 (by rfl) (by rfl) HNW.out (by decide) (by decide) (by unfold maxLen; omega) (by omega) (by omega) (X1.heap.size + 1) h5s ?_
      intro g cap2 w6 hown6 hgrow6 hat6 hlt6
      have hgrow := HG5.out.trans hgrow6
      have hat : (Value.slice ua n0 uc).ownBlock = some g ∨ X1.heap.size ≤ g := by rcases hat6 with h | h; exact .inl h; exact .inr (by omega)
      obtain ⟨hb1, hrow1, hx1, hB1, hK1, hO1, hne⟩ := HE.out
      have hA1 := heap_ltT (show X1.heap[w.heap.size]? = some (.cells #[.slice ua n0 uc] lT (0, 0)) from hb1)
      have hnA := row_ne_box hb1 hrow1
      have hgA : g ≠ w.heap.size := fun e => by
        rcases hat with h | h
        · rw [e] at h; exact hnA h
        · omega
      have hAg : w.heap.size ≠ g := fun e => hgA e.symm
      have hg7 : B7 ≠ g := fun e => by
        rcases hat with h | h
        · rw [← e] at h; exact hne h
        · have := heap_ltT hx1; omega
      have hA7 : B7 ≠ w.heap.size := by omega
      have hb6 : w6.heap[w.heap.size]? = some (.cells #[.slice ua n0 uc] lT (0, 0)) := (hgrow.block _ hA1 (fun e => hnA e.symm)).trans hb1
      have hx6 := (hgrow.block _ (heap_ltT hx1) (fun e => hne e.symm)).trans hx1
      have HSN6 := Lib.hid (box4T hx6)
      have HSN8 := Lib.hid (fun (v0 v1 v2 v3 : Value) => box4T ((set4_other (w1 := w6) (o := n0 * 4) (a0 := v0) (a1 := v1) (a2 := v2) (a3 := v3) hg7).trans hx6))
      have HSN7' := Lib.hid (fun (v0 : Value) => box4T ((Below.heap_setCell w6 ⟨w.heap.size, 0, none⟩ v0 B7 hA7).trans hx6))
      have HSN9 := Lib.hid (fun (v0 v1 v2 v3 v4 : Value) => box4T ((Below.heap_setCell ((((w6.setCell ⟨g, n0 * 4, none⟩ v0).setCell ⟨g, n0 * 4 + 1, none⟩ v1).setCell ⟨g, n0 * 4 + 2, none⟩ v2).setCell ⟨g, n0 * 4 + 3, none⟩ v3) ⟨w.heap.size, 0, none⟩ v4 B7 hA7).trans ((set4_other (w1 := w6) (o := n0 * 4) (a0 := v0) (a1 := v1) (a2 := v2) (a3 := v3) hg7).trans hx6)))
      have HSN10 := Lib.hid (fun (v0 v1 v2 v3 v4 : Value) => box4T ((set4_other (w1 := w6.setCell ⟨w.heap.size, 0, none⟩ v4) (o := n0 * 4) (a0 := v0) (a1 := v1) (a2 := v2) (a3 := v3) hg7).trans ((Below.heap_setCell w6 ⟨w.heap.size, 0, none⟩ v4 B7 hA7).trans hx6)))
      have cA := box1T hb6
      have fA := heap_free hb6 0
      have t0 := hown6.cells (g := g) rfl (n0 * 4) (.int .i64 0) (by rw [List.getElem?_append_right (by rw [hrow1.1]; omega), hrow1.1]; simp)
      have t1 := hown6.cells (g := g) rfl (n0 * 4 + 1) (.string ⟨#[]⟩) (by rw [List.getElem?_append_right (by rw [hrow1.1]; omega), hrow1.1, show n0 * 4 + 1 - n0 * 4 = 1 by omega]; rfl)
      have t2 := hown6.cells (g := g) rfl (n0 * 4 + 2) (.int .i64 0) (by rw [List.getElem?_append_right (by rw [hrow1.1]; omega), hrow1.1, show n0 * 4 + 2 - n0 * 4 = 2 by omega]; rfl)
      have t3 := hown6.cells (g := g) rfl (n0 * 4 + 3) (.slice none 0 0) (by rw [List.getElem?_append_right (by rw [hrow1.1]; omega), hrow1.1, show n0 * 4 + 3 - n0 * 4 = 3 by omega]; rfl)
      rw [add_plainT, Nat.zero_add] at t0 t1 t2 t3
      have s0 := hown6.frozenAt (n0 * 4)
      have s1 := hown6.frozenAt (n0 * 4 + 1)
      have s2 := hown6.frozenAt (n0 * 4 + 2)
      have s3 := hown6.frozenAt (n0 * 4 + 3)
      have HP := Lib.hid (fun (W3 : World) hW => pushed_of (N := w.heap.size) (a0 := intV xk) (a1 := sV t) (a2 := intV xn) (a3 := .slice ma pm.length mc) (W3 := W3) (Nat.le_refl _) (Nat.le_refl _) (by omega) hA1 hb1 hrow1 hown6 hgrow hat hW)
      have j0 : (0 : Int) ≤ (n0 : Int) := by omega
      have j1 : (n0 : Int) < ((n0 + 1 : Nat) : Int) := by omega
      have j2 : (n0 : Int) < (n0 : Int) + 1 := by omega
      clear hb1 hrow1 hx1 hB1 hK1 hO1 hne hgrow hat hA1 hnA hb6 hx6 hown6 hgrow6 hat6 hlt6 hg7 hA7
      refine hK _ _ ⟨fun h => (nomatch (h.symm.trans (show _ = true by kernel_rfl))), HSN6.out, ?_⟩
      clear hK K
      (try simp only [Act.put, List.setIfInBounds_toArray, List.set_cons_zero, List.set_cons_succ])
      refine wpAnyK_takeD (i := 5) (v := .pointer (some ⟨g, n0 * 4, none⟩)) (some 24) rfl rfl (by kernel_rfl) (by kernel_rfl) (by kernel_rfl) (by decide) (fun _ _ _ h => h) (Or.inl ⟨by rfl, fun w' hw' => ?_⟩) (fun h => (nomatch (h.symm.trans (show _ = true by kernel_rfl)))) (HSN6.out) ?_
      · go_simp
      (try simp only [Act.put, List.setIfInBounds_toArray, List.set_cons_zero, List.set_cons_succ])
      refine wpAnyK_all (rs := [6, 7]) (by kernel_rfl) (by simp) ?_
      intro i hi
      simp only [List.mem_cons, List.mem_nil_iff, or_false] at hi
      rcases hi with rfl | rfl
      · refine wpOp_step rfl fun K hK => ?_
        go_simp
        refine hK _ _ ⟨fun h => (nomatch (h.symm.trans (show _ = true by kernel_rfl))), HSN8.out _ _ _ _, ?_⟩
        clear hK K
        refine wpAnyK_all (rs := [7]) (by kernel_rfl) (by simp) ?_
        intro i hi
        obtain rfl := List.mem_singleton.1 hi
        clear hi
        refine wpOp_step rfl fun K hK => ?_
        go_simp
        refine hK _ _ ⟨fun h => (nomatch (h.symm.trans (show _ = true by kernel_rfl))), HSN9.out _ _ _ _ _, ?_⟩
        clear hK K
        refine wpAnyK_done (by kernel_rfl) ?_ _
        unfold Nrm
        gi_wp2
        have hp := HP.out _ (.inl rfl)
        obtain ⟨hb1, hrow1, hx1, hB1, hK1, hO1, hne⟩ := HE.out
        obtain ⟨rfl, hcs1⟩ := HNN.out
        exact ⟨(hO1.trans hp.others).from _, hK1.trans (hp.kp hb1 hrow1 (by omega)), mgj_push hrow1 hcs1 hB1 hp HVN.out hZ HUZ.out HFN.out.1⟩
      · refine wpOp_step rfl fun K hK => ?_
        go_simp
        refine hK _ _ ⟨fun h => (nomatch (h.symm.trans (show _ = true by kernel_rfl))), HSN7'.out _, ?_⟩
        clear hK K
        refine wpAnyK_all (rs := [6]) (by kernel_rfl) (by simp) ?_
        intro i hi
        obtain rfl := List.mem_singleton.1 hi
        clear hi
        refine wpOp_step rfl fun K hK => ?_
        go_simp
        refine hK _ _ ⟨fun h => (nomatch (h.symm.trans (show _ = true by kernel_rfl))), HSN10.out _ _ _ _ _, ?_⟩
        clear hK K
        refine wpAnyK_done (by kernel_rfl) ?_ _
        unfold Nrm
        gi_wp2
        have hp := HP.out _ (.inr rfl)
        obtain ⟨hb1, hrow1, hx1, hB1, hK1, hO1, hne⟩ := HE.out
        obtain ⟨rfl, hcs1⟩ := HNN.out
        exact ⟨(hO1.trans hp.others).from _, hK1.trans (hp.kp hb1 hrow1 (by omega)), mgj_push hrow1 hcs1 hB1 hp HVN.out hZ HUZ.out HFN.out.1⟩
    case done =>
      rintro D xs W hD hxs ⟨u, cs, hb, hrow, hcs, hB⟩ hK
      have hml : mrgL [] L = xs.map fun p => mrun p.run := by
        rw [merge_is, ← hxs, List.map_map]
        rfl
      have HV2 := Lib.hid (show VsAt W (fun b => w.heap.size ≤ b) u (mrgL [] L) by
        rw [hml]
        exact vs_of_own (P := fun b => w.heap.size ≤ b) (by rw [List.length_map]; exact hrow) (hcs.mono fun b _ hb => by have := hb.1; omega) (fun k e => (hrow.lt k e).1))
      have c1 := hb.cell
      have HD := Lib.hid (And.intro hK (kb.trans hB))
      clear hb hrow hcs hB hK hml
      gi_wp2
      obtain ⟨hk1, hBW⟩ := HD.out
      refine ⟨by simp, .inl ⟨_, _, rfl, run_takeDeferred hk1, ?_⟩⟩
      refine ⟨_, by simp [results, Tryz.f26, go_sem], u, rfl, ?_, fin_belowT (W0 := w3) hBW (by omega) hD hk1⟩
      exact HV2.out.keepC (keepC_grown (D := D) (grownBy_putObj' W D (.deferred none)) (fun r e => by cases e; exact ⟨Nat.le_refl _, _, hk1, rfl⟩)) (Nat.le_of_eq (by simp))
end Go.Proofs.YtmfcepfagbkceaaGreatDoor
