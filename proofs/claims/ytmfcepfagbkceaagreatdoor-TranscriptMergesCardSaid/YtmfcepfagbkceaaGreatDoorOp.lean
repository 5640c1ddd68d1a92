/- Stage 10 (transcript): TpJoined TpPush TpChars TpPrint, put together by merge10.py. -/
import Derived.Test.YtmfcepfagbkceaaGreatDoorOo
import Derived.Test.YtmfcepfagbkceaaGreatDoorOj2
import Derived.Deep.AppendLies
namespace Go.Proofs.YtmfcepfagbkceaaGreatDoor
set_option linter.unusedSimpArgs false
set_option linter.unusedVariables false
set_option maxRecDepth 100000
open Go.RowKit Go.Shelf Go.Deep
def RowAt (W : World) (v : Value) (L : List Nd) : Prop :=
  ∃ a cap, v = .slice a L.length cap ∧ (0 < L.length → ∃ b off, a = some ⟨b, off, none⟩ ∧ b < W.heap.size ∧
    ∀ j (h : j < L.length), ∃ sa sm sc, W.cell? ⟨b, off + j * 4, none⟩ = some (intV L[j].kd) ∧ W.cell? ⟨b, off + j * 4 + 1, none⟩ = some (sV L[j].tx) ∧ W.cell? ⟨b, off + j * 4 + 2, none⟩ = some (intV L[j].nm) ∧ W.cell? ⟨b, off + j * 4 + 3, none⟩ = some (.slice sa sm sc))
theorem RowAt.of_vs {W : World} {P : Nat → Prop} {v : Value} {L : List Nd} (h : VsAt W P v L) : RowAt W v L := by
  obtain ⟨a, c, rfl, h0⟩ := id h
  refine ⟨a, c, rfl, fun hl => ?_⟩
  obtain ⟨b, off, rfl, hp, hb, _⟩ := h0 hl
  refine ⟨b, off, rfl, hb, fun j hj => ?_⟩
  obtain ⟨b', off', sa, sc, e, _, _, c1, c2, c3, c4, _⟩ := h.elem' hj
  cases e
  exact ⟨sa, _, sc, c1, c2, c3, c4⟩
theorem RowAt.below {W W' : World} {v : Value} {L : List Nd} (h : RowAt W v L) (hB : Below W.heap.size W W') : RowAt W' v L := by
  obtain ⟨a, c, rfl, h0⟩ := h
  refine ⟨a, c, rfl, fun hl => ?_⟩
  obtain ⟨b, off, rfl, hb, hc⟩ := h0 hl
  refine ⟨b, off, rfl, Nat.lt_of_lt_of_le hb hB.size, fun j hj => ?_⟩
  obtain ⟨sa, sm, sc, c1, c2, c3, c4⟩ := hc j hj
  exact ⟨sa, sm, sc, (hB.cell (p := ⟨b, _, none⟩) hb).trans c1, (hB.cell (p := ⟨b, _, none⟩) hb).trans c2, (hB.cell (p := ⟨b, _, none⟩) hb).trans c3, (hB.cell (p := ⟨b, _, none⟩) hb).trans c4⟩
def txts (L : List Nd) : Bs := L.flatMap Nd.tx
theorem txts_append (A B : List Nd) : txts (A ++ B) = txts A ++ txts B := by unfold txts; rw [List.flatMap_append]
theorem txts_one (x : Nd) : txts [x] = x.tx := by unfold txts; rw [List.flatMap_cons, List.flatMap_nil, List.append_nil]
theorem txts_step (L : List Nd) (j : Nat) (h : j < L.length) : txts (L.take (j + 1)) = txts (L.take j) ++ L[j].tx := by
  rw [List.take_succ_eq_append_getElem h, txts_append, txts_one]
theorem txts_take (L : List Nd) (j : Nat) : (txts (L.take j)).length ≤ (txts L).length := by
  have h : txts (L.take j ++ L.drop j) = txts (L.take j) ++ txts (L.drop j) := txts_append _ _
  rw [List.take_append_drop] at h
  rw [h, List.length_append]; omega
set_option maxHeartbeats 4000000 in
theorem joined_any (L : List Nd) (v : Value) (w : World) (hv : RowAt w v L) (hn : L.length ≤ 100000) (hl : (txts L).length ≤ 1000000000) (r : Bs) (hr : txts L = r) :
    Calls Tryz.prog 53 #[v] w fun e w' => e = .returned (sV r) ∧ Below w.heap.size w w' := by
  have HV := Lib.hid hv
  obtain ⟨a, c, rfl, hvi⟩ := id hv
  clear hvi
  have HR := Lib.hid hr
  have HTK := Lib.hid (txts_take L)
  have HST := Lib.hid (txts_step L)
  clear hv hr
  go_enter Tryz.func53, Tryz.ntmps53
  go_wp2
  go_loopw [8] (fun iv wr => ∃ j : Nat, j ≤ L.length ∧ iv = .int .i64 j ∧ IsB w.heap.size w.heap.size (Lib.byteCells (txts (L.take j))) wr ∧ Below w.heap.size w wr ∧ w.heap.size < wr.heap.size) (fun iv _ => L.length - (intOf iv).toNat)
  case atStart => exact ⟨0, Nat.zero_le _, rfl, isB_newM w w.heap.size (Nat.le_refl _), below_alloc _ _, by simp⟩
  case round =>
    obtain ⟨j, hj, rfl, hI, hB, hN⟩ := hrel
    obtain ⟨wk, rfl⟩ : ∃ x, x = wr := ⟨_, rfl⟩
    have HB := Lib.hid hB
    have HI := Lib.hid hI
    by_cases hlt : j < L.length
    · obtain ⟨a', cap', e', h0⟩ := HV.out
      obtain ⟨rfl, rfl⟩ : a = a' ∧ c = cap' := by cases e'; exact ⟨rfl, rfl⟩
      obtain ⟨b, off, rfl, hbb, hcs⟩ := h0 (by omega)
      obtain ⟨sa, sm, sc, c1, c2, c3, c4⟩ := hcs j hlt
      have d1 := (hB.cell (p := ⟨b, off + j * 4, none⟩) hbb).trans c1
      have d2 := (hB.cell (p := ⟨b, off + j * 4 + 1, none⟩) hbb).trans c2
      have d3 := (hB.cell (p := ⟨b, off + j * 4 + 2, none⟩) hbb).trans c3
      have d4 := (hB.cell (p := ⟨b, off + j * 4 + 3, none⟩) hbb).trans c4
      have hst := HST.out j hlt
      have hp1 := HTK.out (j + 1)
      rw [hst, List.length_append] at hp1
      obtain ⟨x, hx⟩ : ∃ x, L[j] = x := ⟨_, rfl⟩
      rw [hx] at d1 d2 d3 hst hp1
      obtain ⟨xk, hxk⟩ : ∃ z, x.kd = z := ⟨_, rfl⟩
      obtain ⟨xt, hxt⟩ : ∃ z, x.tx = z := ⟨_, rfl⟩
      obtain ⟨xn, hxn⟩ : ∃ z, x.nm = z := ⟨_, rfl⟩
      rw [hxk] at d1
      rw [hxt] at d2 hst hp1
      rw [hxn] at d3
      obtain ⟨S, hS⟩ : ∃ S, txts (L.take j) = S := ⟨_, rfl⟩
      rw [hS] at hst hp1 HI
      have hbl : (Lib.byteCells S).length + (baL xt).size ≤ 140737488355328 := by rw [Lib.byteCells_length, baL_size]; omega
      have HST2 := Lib.hid (And.intro hst hbl)
      have hA := below_alloc wk (.cells #[intV xk, sV xt, intV xn, .slice sa sm sc] nT)
      have hI2 := isB_grownM HI.out hA
      have HI2 := Lib.hid (And.intro hI2 (HB.out.trans (hA.mono (Nat.le_of_lt hN))))
      have i0 : (0 : Int) ≤ (j : Int) := by omega
      have i1 : (j : Int) < (L.length : Int) := by omega
      clear c1 c2 c3 c4 hst hx hS hbb hB hI hbl h0 hcs e' hxk hxt hxn hA hI2 hp1
      go_wp2_with fail
      refine (writeString_any w.heap.size w.heap.size _ _ _ HI2.out.1 HST2.out.2 (by simp; omega)).mono ?_
      rintro e' w3 ⟨rfl, hu3, hb3, _⟩
      have hn3 := hb3.size
      simp at hn3
      have HU := Lib.hid (And.intro hu3 (HI2.out.2.trans hb3))
      clear hu3 hb3 d1 d2 d3 d4
      go_wp2
      go_roundw
      case rel => exact ⟨j + 1, by omega, by go_num, by rw [HST2.out.1, ← bytes_more]; exact .inr HU.out.1, HU.out.2, by omega⟩
      case measure => simp [intOf]; omega
    · obtain rfl : j = L.length := by omega
      rw [List.take_length, HR.out] at HI
      clear hB hI
      go_wp2_with fail
      refine (Tryz.Builder_String_any w.heap.size w.heap.size _ _ HI.out (Nat.le_of_lt hN)).mono ?_
      rintro e' w2 ⟨rfl, hb2⟩
      have HB2 := Lib.hid (HB.out.trans hb2)
      clear hb2
      go_wp2
      go_ret
      exact ⟨rfl, HB2.out⟩
end Go.Proofs.YtmfcepfagbkceaaGreatDoor
namespace Go.Proofs.YtmfcepfagbkceaaGreatDoor
set_option linter.unusedSimpArgs false
set_option linter.unusedVariables false
set_option maxRecDepth 100000
open Go.RowKit Go.Shelf Go.Deep
abbrev z4 : List Value := [.int .i64 0, .string ⟨#[]⟩, .int .i64 0, .slice none 0 0]
theorem info_nd : (Tryz.prog.info? 42).map (fun i => (i.zero, i.size, i.bytes)) = some (some (.agg z4.toArray), 4, 56) := by kernel_rfl
theorem own_keepT {W W' : World} {B : Nat} {e : TypeId} {size : Nat} {v : Value} {n : Nat} {xs : List Value} (h : W.ownsRow B e size v n xs) (hk : ∀ g, v.ownBlock = some g → W'.heap[g]? = W.heap[g]?) : W'.ownsRow B e size v n xs := by
  refine ⟨h.1, ?_⟩
  rcases h.2 with hn | ⟨g, cap, cur, rfl, hb, hg, rest⟩
  · exact .inl hn
  · exact .inr ⟨g, cap, cur, rfl, hb, (hk g rfl).trans hg, rest⟩
theorem set_last4 (cs : List Value) (n : Nat) (h : cs.length = n * 4) (z0 z1 z2 z3 a0 a1 a2 a3 : Value) :
    ((((cs ++ [z0, z1, z2, z3]).set (n * 4) a0).set (n * 4 + 1) a1).set (n * 4 + 2) a2).set (n * 4 + 3) a3 = cs ++ [a0, a1, a2, a3] := by
  rw [← h]
  rw [List.set_append_right _ _ (by omega), List.set_append_right _ _ (by omega), List.set_append_right _ _ (by omega), List.set_append_right _ _ (by omega)]
  simp
theorem set4_row {w1 : World} {B g n cap : Nat} {cs : List Value} {a0 a1 a2 a3 : Value} (hown : w1.ownsRow B nT 4 (.slice (some ⟨g, 0, none⟩) (n + 1) cap) (n + 1) (cs ++ z4)) (hl : cs.length = n * 4) :
    ((((w1.setCell ⟨g, n * 4, none⟩ a0).setCell ⟨g, n * 4 + 1, none⟩ a1).setCell ⟨g, n * 4 + 2, none⟩ a2).setCell ⟨g, n * 4 + 3, none⟩ a3).ownsRow B nT 4 (.slice (some ⟨g, 0, none⟩) (n + 1) cap) (n + 1) (cs ++ [a0, a1, a2, a3]) := by
  have h1 := (hown.stored (n * 4) a0).1
  have h2 := (h1.stored (n * 4 + 1) a1).1
  have h3 := (h2.stored (n * 4 + 2) a2).1
  have h4 := (h3.stored (n * 4 + 3) a3).1
  rwa [set_last4 cs n hl] at h4
theorem set4_other {w1 : World} {g o : Nat} {a0 a1 a2 a3 : Value} {k : Nat} (h : k ≠ g) : ((((w1.setCell ⟨g, o, none⟩ a0).setCell ⟨g, o + 1, none⟩ a1).setCell ⟨g, o + 2, none⟩ a2).setCell ⟨g, o + 3, none⟩ a3).heap[k]? = w1.heap[k]? := by
  rw [Below.heap_setCell _ _ _ _ h, Below.heap_setCell _ _ _ _ h, Below.heap_setCell _ _ _ _ h, Below.heap_setCell _ _ _ _ h]
theorem set4_below {w1 : World} {N g o : Nat} {a0 a1 a2 a3 : Value} (h : N ≤ g) : Below N w1 ((((w1.setCell ⟨g, o, none⟩ a0).setCell ⟨g, o + 1, none⟩ a1).setCell ⟨g, o + 2, none⟩ a2).setCell ⟨g, o + 3, none⟩ a3) :=
  ((((Below.refl _ _).setCell (p := ⟨g, o, none⟩) h _).setCell (p := ⟨g, o + 1, none⟩) h _).setCell (p := ⟨g, o + 2, none⟩) h _).setCell (p := ⟨g, o + 3, none⟩) h _
theorem set4_others {w1 : World} {g o : Nat} {a0 a1 a2 a3 : Value} : KeepsOthers w1 ((((w1.setCell ⟨g, o, none⟩ a0).setCell ⟨g, o + 1, none⟩ a1).setCell ⟨g, o + 2, none⟩ a2).setCell ⟨g, o + 3, none⟩ a3) :=
  (((KeepsOthers.setCell _ _ _).trans (KeepsOthers.setCell _ _ _)).trans (KeepsOthers.setCell _ _ _)).trans (KeepsOthers.setCell _ _ _)
structure Pushed (N B A : Nat) (v : Value) (n : Nat) (cs new : List Value) (X W : World) (v' : Value) : Prop where
  box : Boxed W A lT v'
  row : W.ownsRow B nT 4 v' (n + 1) (cs ++ new)
  below : Below N X W
  same : ∀ k, k < X.heap.size → some k ≠ v.ownBlock → k ≠ A → W.heap[k]? = X.heap[k]?
  fresh : ∀ g, v'.ownBlock = some g → v.ownBlock = some g ∨ X.heap.size ≤ g
  others : KeepsOthers X W
theorem row_ne_box {X : World} {B A n : Nat} {v u : Value} {cs : List Value} (hb : Boxed X A lT u) (h : X.ownsRow B nT 4 v n cs) : v.ownBlock ≠ some A := fun e => by
  rcases h.2 with ⟨rfl, _⟩ | ⟨g, cap, cur, rfl, _, hg, _⟩
  · cases e
  · have : g = A := by simpa [Value.ownBlock] using e
    subst this
    rw [show X.heap[_]? = _ from hb] at hg
    injection hg with hg
    injection hg with _ h2 _
    exact absurd h2 (by decide)
theorem pushed_of {N B A n g cap : Nat} {v : Value} {cs : List Value} {a0 a1 a2 a3 : Value} {X w1 : World} (hN : N ≤ B) (hNA : N ≤ A) (hNX : N ≤ X.heap.size) (hA : A < X.heap.size) (hb : Boxed X A lT v) (hrow : X.ownsRow B nT 4 v n cs)
    (hown : w1.ownsRow B nT 4 (.slice (some ⟨g, 0, none⟩) (n + 1) cap) (n + 1) (cs ++ z4)) (hgrow : X.grownBy w1 v.ownBlock) (hat : v.ownBlock = some g ∨ X.heap.size ≤ g) {W3 : World}
    (hW : (((((w1.setCell ⟨g, n * 4, none⟩ a0).setCell ⟨g, n * 4 + 1, none⟩ a1).setCell ⟨g, n * 4 + 2, none⟩ a2).setCell ⟨g, n * 4 + 3, none⟩ a3).setCell ⟨A, 0, none⟩ (.slice (some ⟨g, 0, none⟩) (n + 1) cap)) = W3 ∨
      (((((w1.setCell ⟨A, 0, none⟩ (.slice (some ⟨g, 0, none⟩) (n + 1) cap)).setCell ⟨g, n * 4, none⟩ a0).setCell ⟨g, n * 4 + 1, none⟩ a1).setCell ⟨g, n * 4 + 2, none⟩ a2).setCell ⟨g, n * 4 + 3, none⟩ a3) = W3) :
    Pushed N B A v n cs [a0, a1, a2, a3] X W3 (.slice (some ⟨g, 0, none⟩) (n + 1) cap) := by
  have hne := row_ne_box hb hrow
  have hgA : g ≠ A := fun e => by
    rcases hat with h | h
    · rw [e] at h; exact hne h
    · omega
  have hAg : A ≠ g := fun e => hgA e.symm
  have hBg : B ≤ g := (hown.lt g rfl).1
  have hbw : Boxed w1 A lT v := (hgrow.block A hA (fun e => hne e.symm)).trans hb
  have hX1 : Below N X w1 := (Below.refl _ _).grown hgrow hNX (fun k e => Nat.le_trans hN (hrow.lt k e).1)
  have ho1 : KeepsOthers X w1 := ⟨hgrow.size, fun k o hk ho => (hgrow.block k (heap_ltT hk) (fun e => by
    rcases hrow.2 with ⟨rfl, _⟩ | ⟨g2, cap2, cur, rfl, _, hg2, _⟩
    · cases e
    · have : k = g2 := by simpa [Value.ownBlock] using e
      subst this
      rw [hk] at hg2; cases hg2; cases ho)).trans hk⟩
  have hl : cs.length = n * 4 := hrow.1
  rcases hW with rfl | rfl
  · refine ⟨?_, ?_, ?_, fun k hk h1 h2 => ?_, fun k e => ?_, (ho1.trans set4_others).trans (KeepsOthers.setCell _ _ _)⟩
    · exact Boxed.set (v := v) _ ((set4_other hAg).trans hbw)
    · exact own_keepT (set4_row hown hl) fun k e => by
        have : g = k := by simpa [Value.ownBlock] using e
        subst this
        exact Below.heap_setCell _ _ _ _ hgA
    · exact (hX1.trans (set4_below (Nat.le_trans hN hBg))).setCell (p := ⟨A, 0, none⟩) hNA _
    · have hkg : k ≠ g := fun e => by
        rcases hat with h | h
        · exact h1 (by rw [e, h])
        · omega
      rw [Below.heap_setCell _ _ _ _ h2, set4_other hkg]
      exact hgrow.block k hk h1
    · have : g = k := by simpa [Value.ownBlock] using e
      subst this; exact hat
  · have hown2 : (w1.setCell ⟨A, 0, none⟩ (.slice (some ⟨g, 0, none⟩) (n + 1) cap)).ownsRow B nT 4 (.slice (some ⟨g, 0, none⟩) (n + 1) cap) (n + 1) (cs ++ z4) := own_keepT hown fun k e => by
      have : g = k := by simpa [Value.ownBlock] using e
      subst this
      exact Below.heap_setCell _ _ _ _ hgA
    refine ⟨?_, set4_row hown2 hl, ?_, fun k hk h1 h2 => ?_, fun k e => ?_, (ho1.trans (KeepsOthers.setCell _ _ _)).trans set4_others⟩
    · exact (set4_other hAg).trans (Boxed.set (v := v) _ hbw)
    · exact (hX1.setCell (p := ⟨A, 0, none⟩) hNA _).trans (set4_below (Nat.le_trans hN hBg))
    · have hkg : k ≠ g := fun e => by
        rcases hat with h | h
        · exact h1 (by rw [e, h])
        · omega
      rw [set4_other hkg, Below.heap_setCell _ _ _ _ h2]
      exact hgrow.block k hk h1
    · have : g = k := by simpa [Value.ownBlock] using e
      subst this; exact hat
theorem ownN_of {A : Nat} {v : Value} {W : World} (hb : Boxed W A lT v) {b : Nat} : ownN (some A) W b ↔ ∃ n c, v = .slice (some ⟨b, 0, none⟩) n c := by
  constructor
  · rintro ⟨R, hR, n, c, hc⟩
    cases hR
    rw [hb.cell] at hc
    exact ⟨n, c, Option.some.inj hc⟩
  · rintro ⟨n, c, rfl⟩
    exact ⟨A, rfl, n, c, hb.cell⟩
theorem Pushed.kp {N B A M n : Nat} {v v' : Value} {cs new : List Value} {X W : World} (h : Pushed N B A v n cs new X W v') (hb : Boxed X A lT v) (hrow : X.ownsRow B nT 4 v n cs) (hAM : A < M) : KpN N M (some A) X W := by
  have hiff : ∀ b, v.ownBlock = some b → ownN (some A) X b := fun b e => by
    rw [ownN_of hb]
    rcases hrow.2 with ⟨rfl, _⟩ | ⟨g, cap, cur, rfl, _⟩
    · cases e
    · have : g = b := by simpa [Value.ownBlock] using e
      subst this
      exact ⟨_, _, rfl⟩
  refine ⟨h.below, fun b c t hbM ho hX => (h.same b (heap_ltT hX) (fun e => ho (hiff b e.symm)) (by omega)).trans hX, fun b hlt ho => ?_⟩
  rw [ownN_of h.box] at ho
  obtain ⟨n', c', rfl⟩ := ho
  rcases h.fresh b rfl with h1 | h1
  · exact hiff b h1
  · omega
end Go.Proofs.YtmfcepfagbkceaaGreatDoor
namespace Go.Proofs.YtmfcepfagbkceaaGreatDoor
set_option linter.unusedSimpArgs false
set_option linter.unusedVariables false
set_option maxRecDepth 100000
open Go.RowKit Go.Shelf Go.Deep
attribute [local go_sem] Oper.semAt_some wide_fnT
def charR (l : List Nd) : Bs × Int := if ckR l = 0 then (chrL l, 0) else ([], 1)
theorem txtP_len : ∀ L : List (Nat × Nd), (txtP L).length ≤ lenP L
  | [] => by simp [txtP, lenP]
  | p :: L => by
    have h := txtP_len L
    have e1 : txtP (p :: L) = txtP [p] ++ txtP L := by rw [← txtP_append]; rfl
    have e2 : lenP (p :: L) = lenP [p] + lenP L := by rw [← lenP_append]; rfl
    have e3 : (txtP [p]).length ≤ lenP [p] := by
      unfold txtP lenP befN
      by_cases h : p.2.kd = 1 <;> simp [h]
    rw [e1, e2, List.length_append]; omega
def cellsT {w0 : World} {P : Nat → Prop} {T : List (Nat × Nd)} (p : El w0 P T) : List Value := [intV p.x.kd, sV p.x.tx, intV p.x.nm, .slice p.sa p.x.ps.length p.sc]
def tlE {w0 : World} {P : Nat → Prop} {T : List (Nat × Nd)} (pre : List (El w0 P T)) : List (El w0 P T) := pre.filter fun p => decide (p.x.kd = 1)
theorem tlE_snoc {w0 : World} {P : Nat → Prop} {T : List (Nat × Nd)} (pre : List (El w0 P T)) (p : El w0 P T) : tlE (pre ++ [p]) = if p.x.kd = 1 then tlE pre ++ [p] else tlE pre := by
  unfold tlE
  rw [List.filter_append]
  by_cases h : p.x.kd = 1 <;> simp [h]
theorem tlE_txt {w0 : World} {P : Nat → Prop} {T : List (Nat × Nd)} : ∀ pre : List (El w0 P T), txts ((tlE pre).map fun p => p.x) = txtP (pre.map El.pr)
  | [] => rfl
  | p :: pre => by
    have h := tlE_txt pre
    have e1 : tlE (p :: pre) = tlE [p] ++ tlE pre := by unfold tlE; rw [← List.filter_append]; rfl
    have e2 : txtP ((p :: pre).map El.pr) = txtP [p.pr] ++ txtP (pre.map El.pr) := by rw [← txtP_append]; rfl
    rw [e1, e2, List.map_append, txts_append, h]
    congr 1
    unfold tlE txtP
    by_cases hk : p.x.kd = 1
    · have : p.pr.2.kd = 1 := hk
      simp [hk, this, txts]; rfl
    · have : ¬ p.pr.2.kd = 1 := hk
      simp [hk, this, txts]
theorem tlE_len {w0 : World} {P : Nat → Prop} {T : List (Nat × Nd)} (pre : List (El w0 P T)) : (tlE pre).length ≤ pre.length := List.length_filter_le _ _
theorem add_plainT (b o j : Nat) : (⟨b, o, none⟩ : Addr).add j = ⟨b, o + j, none⟩ := by unfold Addr.add; split <;> simp_all
theorem flat_get4 {α : Type} (f : α → List Value) (hf : ∀ x, (f x).length = 4) : ∀ (l : List α) (j : Nat) (hj : j < l.length) (i : Nat) (hi : i < 4), (l.flatMap f)[j * 4 + i]? = some ((f l[j])[i]'(by rw [hf]; exact hi))
  | x :: l, 0, _, i, hi => by
    rw [List.flatMap_cons, Nat.zero_mul, Nat.zero_add, List.getElem?_append_left (by rw [hf]; exact hi)]
    exact List.getElem?_eq_getElem _
  | x :: l, j + 1, hj, i, hi => by
    rw [List.flatMap_cons, List.getElem?_append_right (by rw [hf]; omega), hf, show (j + 1) * 4 + i - 4 = j * 4 + i by omega]
    exact flat_get4 f hf l j (by simpa using hj) i hi
theorem row_at {w0 : World} {P : Nat → Prop} {T : List (Nat × Nd)} {W : World} {B : Nat} {v : Value} (l : List (El w0 P T)) (h : W.ownsRow B nT 4 v l.length (l.flatMap cellsT)) : RowAt W v (l.map fun p => p.x) := by
  rcases h.2 with ⟨rfl, hn⟩ | ⟨g, cap, cur, rfl, _, hg, _⟩
  · have : l = [] := List.length_eq_zero_iff.1 hn
    subst this
    exact ⟨none, 0, rfl, fun h => absurd h (by simp)⟩
  · refine ⟨some ⟨g, 0, none⟩, cap, by rw [List.length_map], fun _ => ⟨g, 0, rfl, heap_ltT hg, fun j hj => ?_⟩⟩
    rw [List.length_map] at hj
    have hc : ∀ (i : Nat) (hi : i < 4), W.cell? ⟨g, 0 + j * 4 + i, none⟩ = some ((cellsT l[j])[i]'(by simpa [cellsT] using hi)) := fun i hi => by
      have hget : (l.flatMap cellsT)[j * 4 + i]? = some ((cellsT l[j])[i]'(by simpa [cellsT] using hi)) := by
        exact flat_get4 cellsT (fun _ => rfl) l j hj i hi
      have := h.cells (g := g) rfl (j * 4 + i) _ hget
      rw [add_plainT] at this
      rw [← this, Nat.add_assoc]
    have h0 := hc 0 (by omega)
    have h1 := hc 1 (by omega)
    have h2 := hc 2 (by omega)
    have h3 := hc 3 (by omega)
    refine ⟨l[j].sa, l[j].x.ps.length, l[j].sc, ?_, ?_, ?_, ?_⟩
    · rw [List.getElem_map]; exact h0
    · rw [List.getElem_map]; exact h1
    · rw [List.getElem_map]; exact h2
    · exact h3
set_option maxHeartbeats 8000000 in
theorem charsT_any (L : List Nd) (v : Value) (P : Nat → Prop) (w : World) [T w] (hv : VsAt w P v L) (ht : tots L ≤ 90000) (d : Bs) (e : Int) (hr : charR L = (d, e)) :
    Calls Tryz.prog 18 #[v] w fun en w' => en = .returned (.tuple #[sV d, intV e]) ∧ Below w.heap.size w w' := by
  have HV := Lib.hid hv
  obtain ⟨a, c, rfl, hvi⟩ := id hv
  clear hvi
  have HR := Lib.hid hr
  have HT := Lib.hid ht
  obtain ⟨k, hk⟩ : ∃ k, ckR L = k := ⟨_, rfl⟩
  have HK := Lib.hid hk
  have HCK := Lib.hid (checkT_any L _ P w hv ht k hk)
  clear hr hv ht hk
  obtain ⟨i0, hi, hz0, hz1, hz2⟩ := info_parts info_nd
  refine (callsIn_wide (n := 9)).1 ?_
  refine callsIn_of_wp_marks Tryz.func18 rfl trivial ?_ rfl
  simp only [Tryz.ntmps18, List.size_toArray, List.length_cons, List.length_nil, Nat.reduceAdd, Nat.reduceSub, Array.replicate_succ, Array.replicate_zero, List.push_toArray, List.append_toArray, List.nil_append, List.cons_append]
  gi_wp2_with fail
  refine (callsIn_wide.2 HCK.out).mono ?_
  rintro en w1 ⟨rfl, h1⟩
  have H1 := Lib.hid h1
  clear h1 HCK
  by_cases hk0 : k = 0
  · have q1 : (k != 0) = false := by simp [hk0]
    have HTT := Lib.hid (ck_zero (HK.out.trans hk0))
    have HZ := Lib.hid (show d = chrL L ∧ e = 0 by
      have h := HR.out
      unfold charR at h
      rw [HK.out, if_pos hk0] at h
      exact ⟨(Prod.mk.inj h).1.symm, (Prod.mk.inj h).2.symm⟩)
    clear hk0
    obtain ⟨w3, hw3⟩ : ∃ X, ((w1.alloc (.cells #[.slice none 0 0] lT)).alloc (.cells #[.slice a L.length c] lT (0, 0))) = X := ⟨_, rfl⟩
    obtain ⟨s3, k1, k2, kb⟩ := heap_allocT2 w1 _ _ hw3
    have HW3 := Lib.hid hw3
    have HKK := Lib.hid (And.intro s3 (And.intro k1 (And.intro k2 kb)))
    clear hw3 s3 k1 k2 kb
    gi_wp2_with (gi_at_call 51; refine (callsIn_wide.2 (nodes_any _ _ _ _)).mono ?_; rintro e w' ⟨rfl, rfl⟩)
    rw [HW3.out]
    obtain ⟨s3, k1, k2, kb⟩ := HKK.out
    have hbw : Below w.heap.size w w3 := H1.out.trans (kb.mono H1.out.size)
    have hs1 : w.heap.size ≤ w1.heap.size := H1.out.size
    refine wpIn_range_ret rfl (by omega) (gf := 81) (lb := #[.pointer (some ⟨w1.heap.size + 1, 0, none⟩)]) rfl trivial Tryz.call81
      (nodes_stops w P L _ HV.out HT.out w3.heap.size (some w1.heap.size) (w1.heap.size + 1) w3 hbw k2) (fun h k => h.trans k) (fun W l o o' hl ho hc _ => KpN.put (r := some w1.heap.size) (by omega) (fun R e => by cases e; omega) W l o o' hl ho hc) (fun _ => rfl)
      (fun pre W => (∃ u, Boxed W w1.heap.size lT u ∧ W.ownsRow w.heap.size nT 4 u (tlE pre).length ((tlE pre).flatMap cellsT) ∧ True) ∧ Below w.heap.size w3 W)
      (fun _ _ => False)
      (OwnFrom.and (Own.from (holdsRow_own w.heap.size w1.heap.size lT nT 4 (fun pre => (tlE pre).length) (fun pre => (tlE pre).flatMap cellsT) (fun _ _ => True)) _) (ownFrom_below (by omega) (by omega)))
      (fun _ _ _ _ h _ _ => h)
      (fun pre W h => by
        obtain ⟨⟨u, hb, hrow, _⟩, hB⟩ := h
        exact ⟨by omega, hB.size, fun R e => by cases e; omega, fun b ho => by
          rw [ownN_of hb] at ho
          obtain ⟨n', c', rfl⟩ := ho
          exact (hrow.lt b rfl).2⟩)
      (fun pre W h => h.elim)
      ⟨⟨_, k1, World.ownsRow_nil _ _ _ _, trivial⟩, Below.refl _ _⟩
      (fun p a' X => ∃ (B7 : Nat) (u : Value), w3.heap.size ≤ B7 ∧ Boxed X w1.heap.size lT u ∧ u.ownBlock ≠ some B7 ∧ X.heap[B7]? = some (.cells #[intV p.x.kd, sV p.x.tx, intV p.x.nm, .slice p.sa p.x.ps.length p.sc] nT (0, 0)) ∧ a' = { tmps := #[Value.slice a L.length c, undef, .string ⟨#[]⟩, .int .i64 0, .pointer (some ⟨w1.heap.size, 0, none⟩), undef, .pointer (some ⟨B7, 0, none⟩), Value.slice a L.length c, intV k, .bool false, Value.slice a L.length c, .func (.func 81) #[] #[.pointer (some ⟨w1.heap.size + 1, 0, none⟩)], intV p.lv, .agg #[intV p.x.kd, sV p.x.tx, intV p.x.nm, .slice p.sa p.x.ps.length p.sc], undef, undef, undef, undef, undef, undef, undef, undef, undef, undef], defers := [] })
      (fun p a' _ X Y row h hg hr => by
        obtain ⟨B7, u, h1, h0, hu, h2, h3⟩ := h
        exact ⟨B7, u, h1, cells_grownT hg hr h0, hu, cells_grownT hg hr h2, h3⟩)
      ?assign ?body ?done ?stop
    case assign =>
      intro l pre p X K hI hK
      have hX := hI.2.size
      obtain ⟨⟨u, hb, hrow, _⟩, hB⟩ := hI
      have hG : GN w.heap.size w3.heap.size (some w1.heap.size) X := ⟨by omega, hX, fun R e => by cases e; omega, fun b ho => by
        rw [ownN_of hb] at ho
        obtain ⟨n', c', rfl⟩ := ho
        exact (hrow.lt b rfl).2⟩
      have hne : u.ownBlock ≠ some X.heap.size := fun e => Nat.lt_irrefl _ (hrow.lt _ e).2
      gi_wp2
      exact hK _ _ ((KeepsOthers.alloc X _).from _) (KpN.alloc hG _) ⟨⟨u, hb.alloc _, hrow.alloc _, trivial⟩, hB.alloc (by omega) _⟩ ⟨X.heap.size, u, hX, hb.alloc _, hne, World.alloc_heap_new _ _, rfl⟩
    case body =>
      intro l pre p a' X hl hI hA hN
      obtain ⟨⟨u, hb, hrow, _⟩, hB⟩ := hI
      obtain ⟨B7, u', hB7, hb', hne, hx7, rfl⟩ := hA
      obtain rfl : u' = u := by
        have e1 := hb.cell
        rw [hb'.cell] at e1
        exact Option.some.inj e1
      have hln := tlE_len pre
      obtain ⟨p0, p1, p2, p3⟩ := box4T hx7
      obtain ⟨k1, hk1⟩ : ∃ b, (p.x.kd == 1) = b := ⟨_, rfl⟩
      have HIT := Lib.hid (fun W => isText_any p.x.kd p.x.tx p.x.nm (.slice p.sa p.x.ps.length p.sc) k1 hk1 W)
      have HI := Lib.hid (And.intro hb (And.intro hrow (And.intro hB (And.intro hne hx7))))
      have HSN := Lib.hid (tlE_snoc pre p)
      clear hb hrow hB hne hx7 hb'
      gi_wp2_with fail
      refine (CallsIn.inRound l (callsIn_wide.2 (HIT.out _))).mono ?_
      rintro e2 X1 ⟨rfl, g1⟩
      obtain ⟨hb, hrow, hB, hne, hx7⟩ := HI.out
      have hsz := hB.size
      have hb1 := boxed_belowT hb g1
      have hrow1 := own_keepT hrow (fun g hg => g1.block g (hrow.lt g hg).2)
      have hx1 := (g1.block _ (heap_ltT hx7)).trans hx7
      have hB1 := hB.trans (g1.mono (by omega))
      have hK1 : KpN w.heap.size w3.heap.size (some w1.heap.size) X X1 := KpN.of_below g1 (by omega) (fun R e => by cases e; omega)
      have hO1 := keeps_belowT g1
      clear p0 p1 p2 p3 g1
      cases k1
      · have HK1 := Lib.hid (show p.x.kd ≠ 1 by simpa using hk1)
        have HE := Lib.hid (And.intro hb1 (And.intro hrow1 (And.intro hB1 (And.intro hK1 hO1))))
        clear hb hrow hB hne hx7 hb1 hrow1 hx1 hB1 hK1 hO1
        gi_wp2
        obtain ⟨hb1, hrow1, hB1, hK1, hO1⟩ := HE.out
        refine ⟨hO1.from _, hK1, ⟨u', hb1, ?_, trivial⟩, hB1⟩
        show X1.ownsRow _ _ _ _ (tlE (pre ++ [p])).length ((tlE (pre ++ [p])).flatMap cellsT)
        rw [HSN.out, if_neg HK1.out]
        exact hrow1
      · have HK1 := Lib.hid (show p.x.kd = 1 by simpa using hk1)
        obtain ⟨n0, hn0⟩ : ∃ n0, (tlE pre).length = n0 := ⟨_, rfl⟩
        obtain ⟨cs, hcs⟩ : ∃ cs, (tlE pre).flatMap cellsT = cs := ⟨_, rfl⟩
        rw [hn0, hcs] at hrow1
        rw [hn0] at hln
        obtain ⟨ua, uc, rfl⟩ : ∃ ua uc, u' = .slice ua n0 uc := by
          rcases hrow1.2 with ⟨rfl, hn⟩ | ⟨g, cap, cur, rfl, _⟩
          · exact ⟨none, 0, by rw [hn]⟩
          · exact ⟨_, _, rfl⟩
        have HSA := Lib.hid (show X1.drew.cell? ⟨w1.heap.size, 0, none⟩ = some (.slice ua n0 uc) from hb1.cell)
        have HSN7 := Lib.hid (show X1.drew.cell? ⟨B7, 0, none⟩ = some (intV p.x.kd) ∧ X1.drew.cell? ⟨B7, 1, none⟩ = some (sV p.x.tx) ∧ X1.drew.cell? ⟨B7, 2, none⟩ = some (intV p.x.nm) ∧ X1.drew.cell? ⟨B7, 3, none⟩ = some (.slice p.sa p.x.ps.length p.sc) from box4T hx1)
        have HE := Lib.hid (And.intro hb1 (And.intro hrow1 (And.intro hx1 (And.intro hB1 (And.intro hK1 (And.intro hO1 hne))))))
        have hs1x := hB1.size
        have HNN := Lib.hid (And.intro hn0 hcs)
        clear hb hrow hB hne hx7 hb1 hrow1 hx1 hB1 hK1 hO1 hn0 hcs
        gi_wp2_with fail
        refine wpIn_region_roundT (by kernel_rfl) (by kernel_rfl) (wpAny_of_k (S := fun W' => W'.cell? ⟨w1.heap.size, 0, none⟩ = some (.slice ua n0 uc)) (S' := fun W' => W'.cell? ⟨B7, 0, none⟩ = some (intV p.x.kd) ∧ W'.cell? ⟨B7, 1, none⟩ = some (sV p.x.tx) ∧ W'.cell? ⟨B7, 2, none⟩ = some (intV p.x.nm) ∧ W'.cell? ⟨B7, 3, none⟩ = some (.slice p.sa p.x.ps.length p.sc)) (k := 4) _ _ _ _ ?_)
        change wpAnyK _ _ _ _ _ _ _ 8 _ _ X1.drew
        refine wpAnyK_takeD (i := 1) (v := .agg #[intV p.x.kd, sV p.x.tx, intV p.x.nm, .slice p.sa p.x.ps.length p.sc]) (some 17) rfl rfl (by kernel_rfl) (by kernel_rfl) (by kernel_rfl) (by decide) (fun _ _ _ h => h) (Or.inl ⟨by rfl, fun w' hw' => ?_⟩) (fun _ => HSA.out) (HSN7.out) ?_
        · obtain ⟨b0, b1, b2, b3⟩ := hw'; go_simp
        (try simp only [Act.put, List.setIfInBounds_toArray, List.set_cons_zero, List.set_cons_succ])
        refine wpAnyK_takeL (i := 0) (v := .slice ua n0 uc) (some 16) rfl rfl rfl (by kernel_rfl) (by kernel_rfl) (by kernel_rfl) (by kernel_rfl) (by kernel_rfl) (by decide) (fun _ _ _ h => h) (Or.inl ⟨by rfl, fun w' hw' => ?_⟩) (HSA.out) (HSN7.out) ?_
        · have b0 := hw'; go_simp
        (try simp only [Act.put, List.setIfInBounds_toArray, List.set_cons_zero, List.set_cons_succ])
        refine wpAnyK_takeD (i := 2) (v := .int .i64 n0) (some 18) rfl rfl (by kernel_rfl) (by kernel_rfl) (by kernel_rfl) (by decide) (fun _ _ _ h => h) (Or.inl ⟨by rfl, fun w' hw' => ?_⟩) (fun _ => HSA.out) (HSN7.out) ?_
        · go_simp
        (try simp only [Act.put, List.setIfInBounds_toArray, List.set_cons_zero, List.set_cons_succ])
        refine wpAnyK_all (rs := [3]) (by kernel_rfl) (by simp) ?_
        intro i' hi'
        obtain rfl := List.mem_singleton.1 hi'
        clear hi'
        refine wpOp_step rfl fun K hK => ?_
        go_simp
        obtain ⟨w5, hw5⟩ : ∃ x, (X1.alloc (.cells #[.int .i64 0, .string ⟨#[]⟩, .int .i64 0, .slice none 0 0] nT)).drew = x := ⟨_, rfl⟩
        have h5B : Below X1.heap.size X1 w5 := by rw [← hw5]; exact ((Below.refl _ X1).alloc (Nat.le_refl _) _).drew
        have h5s : w5.heap.size = X1.heap.size + 1 := by rw [← hw5]; simp
        have h5n : w5.heap[X1.heap.size]? = some (.cells #[.int .i64 0, .string ⟨#[]⟩, .int .i64 0, .slice none 0 0] nT (0, 0)) := by rw [← hw5]; exact World.alloc_heap_new X1 _
        obtain ⟨hb1, hrow1, hx1, hB1, hK1, hO1, hne⟩ := HE.out
        have hA1 := heap_ltT (show X1.heap[w1.heap.size]? = some (.cells #[.slice ua n0 uc] lT (0, 0)) from hb1)
        have HSA5 := Lib.hid (show w5.cell? ⟨w1.heap.size, 0, none⟩ = some (.slice ua n0 uc) from (h5B.cell (p := ⟨w1.heap.size, 0, none⟩) hA1).trans hb1.cell)
        have HSN5 := Lib.hid (box4T ((h5B.block B7 (heap_ltT hx1)).trans hx1))
        have HO5 := Lib.hid (own_keepT hrow1 fun g hg => h5B.block g (hrow1.lt g hg).2)
        have HNW := Lib.hid (World.news_of_block h5n)
        have HG5 := Lib.hid ((below_grownT h5B).but (Value.slice ua n0 uc).ownBlock)
        rw [hw5]
        clear hb1 hrow1 hx1 hB1 hK1 hO1 hne hw5 h5n h5B hA1
        refine hK _ _ ⟨fun _ => HSA5.out, HSN5.out, ?_⟩
        clear hK K
        (try simp only [Act.put, List.setIfInBounds_toArray, List.set_cons_zero, List.set_cons_succ])
        refine wpAnyK_all (rs := [4]) (by kernel_rfl) (by simp) ?_
        intro i' hi'
        obtain rfl := List.mem_singleton.1 hi'
        clear hi'
        refine wpOp_step rfl fun K hK => ?_
        refine step_append_lies _ (by rfl) _ _ lT (by rfl) w.heap.size nT i0 (.agg #[.int .i64 0, .string ⟨#[]⟩, .int .i64 0, .slice none 0 0]) 4 56 Tryz.underlying24 hi hz0 hz1 hz2 (by rfl) (by decide) (.slice ua n0 uc) n0 cs (by rfl) HO5.out ⟨X1.heap.size, 0, none⟩ 1 1 z4 (by rfl) (by rfl) HNW.out (by decide) (by decide) (by unfold maxLen; omega) (by omega) (by omega) (X1.heap.size + 1) h5s ?_
        intro g cap2 w6 hown6 hgrow6 hat6 hlt6
        have hgrow := HG5.out.trans hgrow6
        have hat : (Value.slice ua n0 uc).ownBlock = some g ∨ X1.heap.size ≤ g := by rcases hat6 with h | h; exact .inl h; exact .inr (by omega)
        obtain ⟨hb1, hrow1, hx1, hB1, hK1, hO1, hne⟩ := HE.out
        have hA1 := heap_ltT (show X1.heap[w1.heap.size]? = some (.cells #[.slice ua n0 uc] lT (0, 0)) from hb1)
        have hnA := row_ne_box hb1 hrow1
        have hgA : g ≠ w1.heap.size := fun e => by
          rcases hat with h | h
          · rw [e] at h; exact hnA h
          · omega
        have hAg : w1.heap.size ≠ g := fun e => hgA e.symm
        have hg7 : B7 ≠ g := fun e => by
          rcases hat with h | h
          · rw [← e] at h; exact hne h
          · have := heap_ltT hx1; omega
        have hA7 : B7 ≠ w1.heap.size := by omega
        have hb6 : w6.heap[w1.heap.size]? = some (.cells #[.slice ua n0 uc] lT (0, 0)) := (hgrow.block _ hA1 (fun e => hnA e.symm)).trans hb1
        have hx6 := (hgrow.block _ (heap_ltT hx1) (fun e => hne e.symm)).trans hx1
        have HSN6 := Lib.hid (box4T hx6)
        have HSN8 := Lib.hid (fun (v0 v1 v2 v3 : Value) => box4T ((set4_other (w1 := w6) (o := n0 * 4) (a0 := v0) (a1 := v1) (a2 := v2) (a3 := v3) hg7).trans hx6))
        have HSN7' := Lib.hid (fun (v0 : Value) => box4T ((Below.heap_setCell w6 ⟨w1.heap.size, 0, none⟩ v0 B7 hA7).trans hx6))
        have HSN9 := Lib.hid (fun (v0 v1 v2 v3 v4 : Value) => box4T ((Below.heap_setCell ((((w6.setCell ⟨g, n0 * 4, none⟩ v0).setCell ⟨g, n0 * 4 + 1, none⟩ v1).setCell ⟨g, n0 * 4 + 2, none⟩ v2).setCell ⟨g, n0 * 4 + 3, none⟩ v3) ⟨w1.heap.size, 0, none⟩ v4 B7 hA7).trans ((set4_other (w1 := w6) (o := n0 * 4) (a0 := v0) (a1 := v1) (a2 := v2) (a3 := v3) hg7).trans hx6)))
        have HSN10 := Lib.hid (fun (v0 v1 v2 v3 v4 : Value) => box4T ((set4_other (w1 := w6.setCell ⟨w1.heap.size, 0, none⟩ v4) (o := n0 * 4) (a0 := v0) (a1 := v1) (a2 := v2) (a3 := v3) hg7).trans ((Below.heap_setCell w6 ⟨w1.heap.size, 0, none⟩ v4 B7 hA7).trans hx6)))
        have cA := box1T hb6
        have fA := heap_free hb6 0
        have t0 := hown6.cells (g := g) rfl (n0 * 4) (.int .i64 0) (by rw [List.getElem?_append_right (by rw [hrow1.1]; omega), hrow1.1]; simp)
        have t1 := hown6.cells (g := g) rfl (n0 * 4 + 1) (.string ⟨#[]⟩) (by rw [List.getElem?_append_right (by rw [hrow1.1]; omega), hrow1.1, show n0 * 4 + 1 - n0 * 4 = 1 by omega]; rfl)
        have t2 := hown6.cells (g := g) rfl (n0 * 4 + 2) (.int .i64 0) (by rw [List.getElem?_append_right (by rw [hrow1.1]; omega), hrow1.1, show n0 * 4 + 2 - n0 * 4 = 2 by omega]; rfl)
        have t3 := hown6.cells (g := g) rfl (n0 * 4 + 3) (.slice none 0 0) (by rw [List.getElem?_append_right (by rw [hrow1.1]; omega), hrow1.1, show n0 * 4 + 3 - n0 * 4 = 3 by omega]; rfl)
        rw [add_plainT, Nat.zero_add] at t0 t1 t2 t3
        have s0 := hown6.frozenAt (n0 * 4)
        have s1 := hown6.frozenAt (n0 * 4 + 1)
        have s2 := hown6.frozenAt (n0 * 4 + 2)
        have s3 := hown6.frozenAt (n0 * 4 + 3)
        have HP := Lib.hid (fun (W3 : World) hW => pushed_of (N := w.heap.size) (a0 := intV p.x.kd) (a1 := sV p.x.tx) (a2 := intV p.x.nm) (a3 := .slice p.sa p.x.ps.length p.sc) (W3 := W3) (Nat.le_refl _) (by omega) (by omega) hA1 hb1 hrow1 hown6 hgrow hat hW)
        have j0 : (0 : Int) ≤ (n0 : Int) := by omega
        have j1 : (n0 : Int) < ((n0 + 1 : Nat) : Int) := by omega
        have j2 : (n0 : Int) < (n0 : Int) + 1 := by omega
        clear hb1 hrow1 hx1 hB1 hK1 hO1 hne hgrow hat hA1 hnA hb6 hx6 hown6 hgrow6 hat6 hlt6 hg7 hA7
        refine hK _ _ ⟨fun h => (nomatch (h.symm.trans (show _ = true by kernel_rfl))), HSN6.out, ?_⟩
        clear hK K
        (try simp only [Act.put, List.setIfInBounds_toArray, List.set_cons_zero, List.set_cons_succ])
        refine wpAnyK_takeD (i := 5) (v := .pointer (some ⟨g, n0 * 4, none⟩)) (some 21) rfl rfl (by kernel_rfl) (by kernel_rfl) (by kernel_rfl) (by decide) (fun _ _ _ h => h) (Or.inl ⟨by rfl, fun w' hw' => ?_⟩) (fun h => (nomatch (h.symm.trans (show _ = true by kernel_rfl)))) (HSN6.out) ?_
        · go_simp
        (try simp only [Act.put, List.setIfInBounds_toArray, List.set_cons_zero, List.set_cons_succ])
        refine wpAnyK_all (rs := [6, 7]) (by kernel_rfl) (by simp) ?_
        intro i hi
        simp only [List.mem_cons, List.mem_nil_iff, or_false] at hi
        rcases hi with rfl | rfl
        · refine wpOp_step rfl fun K hK => ?_
          go_simp
          refine hK _ _ ⟨fun h => (nomatch (h.symm.trans (show _ = true by kernel_rfl))), HSN8.out _ _ _ _, ?_⟩
          clear hK K
          refine wpAnyK_all (rs := [7]) (by kernel_rfl) (by simp) ?_
          intro i hi
          obtain rfl := List.mem_singleton.1 hi
          clear hi
          refine wpOp_step rfl fun K hK => ?_
          go_simp
          refine hK _ _ ⟨fun h => (nomatch (h.symm.trans (show _ = true by kernel_rfl))), HSN9.out _ _ _ _ _, ?_⟩
          clear hK K
          refine wpAnyK_done (by kernel_rfl) ?_ _
          unfold Nrm
          gi_wp2
          have hp := HP.out _ (.inl rfl)
          obtain ⟨hb1, hrow1, hx1, hB1, hK1, hO1, hne⟩ := HE.out
          refine ⟨(hO1.trans hp.others).from _, hK1.trans (hp.kp hb1 hrow1 (by omega)), ⟨_, hp.box, ?_, trivial⟩, hB1.trans hp.below⟩
          rw [HSN.out, if_pos HK1.out, List.length_append, List.flatMap_append, HNN.out.1, HNN.out.2]
          exact hp.row
        · refine wpOp_step rfl fun K hK => ?_
          go_simp
          refine hK _ _ ⟨fun h => (nomatch (h.symm.trans (show _ = true by kernel_rfl))), HSN7'.out _, ?_⟩
          clear hK K
          refine wpAnyK_all (rs := [6]) (by kernel_rfl) (by simp) ?_
          intro i hi
          obtain rfl := List.mem_singleton.1 hi
          clear hi
          refine wpOp_step rfl fun K hK => ?_
          go_simp
          refine hK _ _ ⟨fun h => (nomatch (h.symm.trans (show _ = true by kernel_rfl))), HSN10.out _ _ _ _ _, ?_⟩
          clear hK K
          refine wpAnyK_done (by kernel_rfl) ?_ _
          unfold Nrm
          gi_wp2
          have hp := HP.out _ (.inr rfl)
          obtain ⟨hb1, hrow1, hx1, hB1, hK1, hO1, hne⟩ := HE.out
          refine ⟨(hO1.trans hp.others).from _, hK1.trans (hp.kp hb1 hrow1 (by omega)), ⟨_, hp.box, ?_, trivial⟩, hB1.trans hp.below⟩
          rw [HSN.out, if_pos HK1.out, List.length_append, List.flatMap_append, HNN.out.1, HNN.out.2]
          exact hp.row
    case done =>
      rintro D xs W hD hxs ⟨⟨u, hb, hrow, _⟩, hB⟩ hK
      have hln := tlE_len xs
      have hxl : xs.length ≤ 4097 := by
        have := congrArg List.length hxs
        rw [List.length_map, List.length_take] at this
        omega
      have htx2 : txtP (xs.map El.pr) = chrL L := by rw [hxs, take_all HTT.out.1, txtP_chr.2]
      have htx := (tlE_txt xs).trans htx2
      have hcl : (chrL L).length ≤ 65536 := by
        have h1 := txtP_len (preL 0 L)
        rw [txtP_chr.2, lenP_out.2 L 0 false false HTT.out.2.2.1] at h1
        have := HTT.out.2.2.2
        omega
      have HJ := Lib.hid (joined_any ((tlE xs).map fun p => p.x) u W (row_at _ hrow) (by rw [List.length_map]; omega) (by rw [htx]; omega) (chrL L) htx)
      obtain ⟨ua, un, uc, rfl⟩ : ∃ ua un uc, u = .slice ua un uc := by
        rcases hrow.2 with ⟨rfl, hn⟩ | ⟨g, cap, cur, rfl, _⟩
        · exact ⟨_, _, _, rfl⟩
        · exact ⟨_, _, _, rfl⟩
      have c1 := hb.cell
      have HKD := Lib.hid hK
      have HB := Lib.hid hB
      obtain ⟨rfl, rfl⟩ := HZ.out
      clear hb hrow hB hK hxs htx htx2 hcl hln hxl HR
      gi_wp2_with fail
      refine (callsIn_wide.2 HJ.out).mono ?_
      rintro e2 W1 ⟨rfl, g1⟩
      have hk1 := (g1.block _ (heap_ltT HKD.out)).trans HKD.out
      have hBW := (hbw.trans HB.out).trans (g1.mono (by have := (hbw.trans HB.out).size; omega))
      have HD := Lib.hid (And.intro hk1 hBW)
      clear hk1 hBW g1 c1
      gi_wp2
      obtain ⟨hk1, hBW⟩ := HD.out
      refine ⟨by simp, .inl ⟨_, _, rfl, run_takeDeferred hk1, ?_⟩⟩
      exact ⟨_, by simp [results, Tryz.f18, go_sem], rfl, fin_belowT (W0 := w3) hBW hbw.size hD hk1⟩
    case stop => exact fun _ _ _ _ _ h _ => h.elim
  · have q1 : (k != 0) = true := by simpa using hk0
    have HZ := Lib.hid (show d = [] ∧ e = 1 by
      have h := HR.out
      unfold charR at h
      rw [HK.out, if_neg hk0] at h
      exact ⟨(Prod.mk.inj h).1.symm, (Prod.mk.inj h).2.symm⟩)
    clear hk0
    gi_wp2
    exact ⟨.tuple #[sV [], intV 1], by simp [results, Tryz.f18, go_sem]; rfl, by rw [HZ.out.1, HZ.out.2], H1.out⟩
end Go.Proofs.YtmfcepfagbkceaaGreatDoor
namespace Go.Proofs.YtmfcepfagbkceaaGreatDoor
set_option linter.unusedSimpArgs false
set_option linter.unusedVariables false
set_option maxRecDepth 100000
open Go.RowKit Go.Shelf Go.Deep
theorem all_memT : ∀ {L : List Nd} {b w : Bool}, allL b w L = 0 → ∀ x ∈ L, ∃ b', allN b' w x = 0
  | [], _, _, _, x, hx => by cases hx
  | y :: L, b, w, h, x, hx => by
    obtain ⟨h1, h2⟩ := allL_cons h
    rcases List.mem_cons.1 hx with rfl | hx
    · exact ⟨_, h1⟩
    · exact all_memT h2 x hx
theorem out_append (a b : List Nd) : outL (a ++ b) = outL a ++ outL b := by
  have : ∀ a : List Nd, lexL (a ++ b) = lexL a ++ lexL b := fun a => by
    induction a with
    | nil => rw [lexL]; rfl
    | cons x l ih => rw [List.cons_append, lexL, lexL, ih, List.append_assoc]
  unfold outL
  rw [this, prn_append]
theorem out_step {L : List Nd} {j : Nat} (h : j < L.length) {b w : Bool} (hx : allN b w L[j] = 0) : outL (L.take (j + 1)) = outL (L.take j) ++ (befN L[j] ++ (outL L[j].ps ++ behN L[j])) := by
  rw [List.take_succ_eq_append_getElem h, out_append, out_cons hx]
  have h0 : outL [] = [] := by unfold outL; rw [lexL]; rfl
  rw [h0, List.append_nil]
theorem out_take (L : List Nd) (j : Nat) : (outL (L.take j)).length ≤ (outL L).length := by
  have h := out_append (L.take j) (L.drop j)
  rw [List.take_append_drop] at h
  rw [h, List.length_append]; omega
abbrev wT : TypeId := 68
abbrev wrV (b Z : Nat) : Value := .func (.func 46) #[] #[.pointer (some ⟨b, 0, none⟩), .pointer (some ⟨Z, 0, none⟩)]
set_option maxHeartbeats 8000000 in
theorem write_any (w0 : World) [T w0] (P : Nat → Prop) (B b Z : Nat) (hB0 : w0.heap.size ≤ B) : ∀ (N : Nat) (L : List Nd), tots L ≤ N → tots L ≤ 90000 → ∀ (bb ww : Bool), allL bb ww L = 0 → ∀ (S0 : Bs), S0.length + (outL L).length ≤ 1000000 →
    ∀ (v : Value) (W : World), VsAt w0 P v L → Below w0.heap.size w0 W → B ≤ W.heap.size → IsB B b (Lib.byteCells S0) W → W.heap[Z]? = some (.cells #[wrV b Z] wT (0, 0)) →
    Calls Tryz.prog 46 #[v, .pointer (some ⟨b, 0, none⟩), .pointer (some ⟨Z, 0, none⟩)] W fun e W' => (∃ u, e = .returned u) ∧ IsB B b (Lib.byteCells (S0 ++ outL L)) W' ∧ Below w0.heap.size w0 W' ∧ W.heap.size ≤ W'.heap.size ∧ W'.heap[Z]? = some (.cells #[wrV b Z] wT (0, 0)) := by
  intro N
  induction N using Nat.strongRecOn with
  | _ N ih =>
    intro L hN hMx bb ww hall S0 hlen v W hv hBW hBs hI hZ
    have HV := Lib.hid hv
    obtain ⟨a, c, rfl, hvi⟩ := id hv
    clear hvi hv
    have hll := len_tots L
    have IH := Lib.hid ih
    have HALL := Lib.hid hall
    have HBW := Lib.hid hBW
    have HI0 := Lib.hid (And.intro hI hZ)
    have HOT := Lib.hid (out_take L)
    clear ih hall hBW hI hZ
    go_enter Tryz.func46, Tryz.ntmps46
    go_wp2
    go_loopw [10] (fun iv wr => ∃ j : Nat, j ≤ L.length ∧ iv = .int .i64 j ∧ IsB B b (Lib.byteCells (S0 ++ outL (L.take j))) wr ∧ Below w0.heap.size w0 wr ∧ W.heap.size ≤ wr.heap.size ∧ wr.heap[Z]? = some (.cells #[wrV b Z] wT (0, 0))) (fun iv _ => L.length - (intOf iv).toNat)
    case atStart =>
      have h0 : outL [] = [] := by unfold outL; rw [lexL]; rfl
      exact ⟨0, Nat.zero_le _, rfl, by rw [List.take_zero, h0, List.append_nil]; exact HI0.out.1, HBW.out, Nat.le_refl _, HI0.out.2⟩
    case round =>
      obtain ⟨j, hj, rfl, hI, hB, hsz, hZ⟩ := hrel
      obtain ⟨wk, rfl⟩ : ∃ x, x = wr := ⟨_, rfl⟩
      by_cases hlt : j < L.length
      · obtain ⟨b7, off, sa, sc, rfl, _, hbb, c1, c2, c3, c4, hx⟩ := HV.out.elem' hlt
        have i0 : (0 : Int) ≤ (j : Int) := by omega
        have i1 : (j : Int) < (L.length : Int) := by omega
        have d1 := (hB.cell (p := ⟨b7, off + j * 4, none⟩) hbb).trans c1
        have d2 := (hB.cell (p := ⟨b7, off + j * 4 + 1, none⟩) hbb).trans c2
        have d3 := (hB.cell (p := ⟨b7, off + j * 4 + 2, none⟩) hbb).trans c3
        have d4 := (hB.cell (p := ⟨b7, off + j * 4 + 3, none⟩) hbb).trans c4
        obtain ⟨b', hn⟩ := all_memT HALL.out L[j] (List.getElem_mem hlt)
        have hst := out_step hlt hn
        have hp1 := HOT.out (j + 1)
        rw [hst] at hp1
        have hmt := (tots_mem hlt).1
        have hvs : VsAt w0 P (.slice sa L[j].ps.length sc) L[j].ps := parts_at hx (Below.refl _ _)
        obtain ⟨x, hxe⟩ : ∃ x, L[j] = x := ⟨_, rfl⟩
        rw [hxe] at d1 d2 d3 d4 hn hst hp1 hmt hvs
        have hxt := tot_ps x
        have hfin : Fine x.kd x.tx x.nm x.ps.isEmpty b' ww ∧ allL false true x.ps = 0 := by
          obtain ⟨xk, xt, xn, xp⟩ := x
          exact allN_zero hn
        have hA := below_alloc wk (.cells #[intV x.kd, sV x.tx, intV x.nm, .slice sa x.ps.length sc] nT)
        haveI tk : T wk := T.below hB
        haveI ta : T (wk.alloc (.cells #[intV x.kd, sV x.tx, intV x.nm, .slice sa x.ps.length sc] nT)) := T.below hA
        have HAR := Lib.hid (around_any' x b' ww hfin.1 sa sc (wk.alloc (.cells #[intV x.kd, sV x.tx, intV x.nm, .slice sa x.ps.length sc] nT)))
        have HREC := Lib.hid (fun S1 (h1 : S1.length + (outL x.ps).length ≤ 1000000) W1 => IH.out (tots x.ps) (by omega) x.ps (Nat.le_refl _) (by omega) false true hfin.2 S1 h1 (.slice sa x.ps.length sc) W1 hvs)
        have hnb := World.alloc_heap_new wk (.cells #[intV x.kd, sV x.tx, intV x.nm, .slice sa x.ps.length sc] nT (0, 0))
        have hZa := (Below.heap_alloc wk (.cells #[intV x.kd, sV x.tx, intV x.nm, .slice sa x.ps.length sc] nT (0, 0)) Z (heap_ltT hZ)).trans hZ
        have hIa := isB_grownM hI hA
        have hBa := hB.trans (hA.mono hB.size)
        obtain ⟨S, hS⟩ : ∃ S, S0 ++ outL (L.take j) = S := ⟨_, rfl⟩
        rw [hS] at hIa
        obtain ⟨r1, hr1⟩ : ∃ r, befN x = r := ⟨_, rfl⟩
        obtain ⟨r2, hr2⟩ : ∃ r, behN x = r := ⟨_, rfl⟩
        obtain ⟨om, hom⟩ : ∃ r, outL x.ps = r := ⟨_, rfl⟩
        rw [hr1, hr2, hom] at hst hp1
        rw [hr1, hr2] at HAR
        rw [hom] at HREC
        have hSl : S.length = S0.length + (outL (L.take j)).length := by rw [← hS, List.length_append]
        have HST := Lib.hid (show S0 ++ outL (L.take (j + 1)) = ((S ++ r1) ++ om) ++ r2 by rw [hst, ← hS]; simp)
        simp only [List.length_append] at hp1
        have HNUM := Lib.hid (show S.length + r1.length + om.length + r2.length ≤ 1000000 by omega)
        have HXA := Lib.hid (And.intro hnb (And.intro hZa (And.intro hIa (And.intro hBa (show W.heap.size ≤ (wk.alloc (.cells #[intV x.kd, sV x.tx, intV x.nm, .slice sa x.ps.length sc] nT)).heap.size by simp; omega)))))
        obtain ⟨xk, hxk⟩ : ∃ z, x.kd = z := ⟨_, rfl⟩
        obtain ⟨xt, hxtt⟩ : ∃ z, x.tx = z := ⟨_, rfl⟩
        obtain ⟨xn, hxn⟩ : ∃ z, x.nm = z := ⟨_, rfl⟩
        obtain ⟨xm, hxm⟩ : ∃ z, x.ps.length = z := ⟨_, rfl⟩
        rw [hxk, hxtt, hxn, hxm] at HAR HXA
        rw [hxm] at HREC
        rw [hxk] at d1
        rw [hxtt] at d2
        rw [hxn] at d3
        rw [hxm] at d4
        clear c1 c2 c3 c4 hbb hn hst hp1 hmt hvs hxt hfin hA tk ta hnb hZa hIa hBa hS hr1 hr2 hom hSl hxk hxtt hxn hxm hxe hx hI hB hsz hZ
        go_wp2_with fail
        refine HAR.out.mono ?_
        rintro e2 w2 ⟨rfl, h2⟩
        obtain ⟨hnb, hZa, hIa, hBa, hsa⟩ := HXA.out
        have hnb2 := (h2.block _ (heap_ltT hnb)).trans hnb
        have hZ2 := (h2.block _ (heap_ltT hZa)).trans hZa
        have hI2 := isB_grownM hIa h2
        have hB2 := hBa.trans (h2.mono hBa.size)
        have hs2 := Nat.le_trans hsa h2.size
        have HX2 := Lib.hid (And.intro hnb2 (And.intro hZ2 (And.intro hI2 (And.intro hB2 hs2))))
        clear h2 hnb hZa hIa hBa hsa hnb2 hZ2 hI2 hB2 hs2 d1 d2 d3 d4 HAR
        go_wp2_with fail
        refine (writeString_any B b _ _ _ HX2.out.2.2.1 (by rw [Lib.byteCells_length, baL_size]; have := HNUM.out; omega) (by have := HX2.out.2.2.2.2; omega)).mono ?_
        rintro e2 w3 ⟨rfl, hu3, hb3, hk3⟩
        obtain ⟨hnb2, hZ2, hI2, hB2, hs2⟩ := HX2.out
        have hnb3 := hk3 _ _ _ hnb2 (by decide) (by decide)
        have hZ3 := hk3 _ _ _ hZ2 (by decide) (by decide)
        have hB3 := hB2.trans (hb3.mono hB0)
        have hs3 := Nat.le_trans hs2 hb3.size
        rw [bytes_more] at hu3
        obtain ⟨_, _, _, n3⟩ := box4T hnb3
        have z3 := box1T hZ3
        have HX3 := Lib.hid (And.intro hZ3 (And.intro (show IsB B b (Lib.byteCells (S ++ r1)) w3 from .inr hu3) (And.intro hB3 hs3)))
        clear hu3 hb3 hk3 hnb2 hZ2 hI2 hB2 hs2 hnb3 hZ3 hB3 hs3
        go_wp2_with fail
        refine (HREC.out (S ++ r1) (by rw [List.length_append]; have := HNUM.out; omega) w3 HX3.out.2.2.1 (by have := HX3.out.2.2.2; omega) HX3.out.2.1 HX3.out.1).mono ?_
        rintro e2 w4 ⟨⟨u4, rfl⟩, hI4, hB4, hs4, hZ4⟩
        have HX4 := Lib.hid (And.intro hZ4 (And.intro hI4 (And.intro hB4 (Nat.le_trans HX3.out.2.2.2 hs4))))
        clear hI4 hB4 hs4 hZ4 n3 z3 HREC
        go_wp2_with fail
        refine (writeString_any B b _ _ _ HX4.out.2.1 (by rw [Lib.byteCells_length, baL_size]; simp only [List.length_append]; have := HNUM.out; omega) (by have := HX4.out.2.2.2; omega)).mono ?_
        rintro e2 w5 ⟨rfl, hu5, hb5, hk5⟩
        obtain ⟨hZ4, hI4, hB4, hs4⟩ := HX4.out
        have hZ5 := hk5 _ _ _ hZ4 (by decide) (by decide)
        have hB5 := hB4.trans (hb5.mono hB0)
        have hs5 := Nat.le_trans hs4 hb5.size
        rw [bytes_more] at hu5
        have HX5 := Lib.hid (And.intro hZ5 (And.intro hu5 (And.intro hB5 hs5)))
        clear hu5 hb5 hk5 hZ4 hI4 hB4 hs4 hZ5 hB5 hs5
        go_wp2
        go_roundw
        case rel => exact ⟨j + 1, by omega, by go_num, by rw [HST.out]; exact .inr HX5.out.2.1, HX5.out.2.2.1, HX5.out.2.2.2, HX5.out.1⟩
        case measure => simp [intOf]; omega
      · obtain rfl : j = L.length := by omega
        rw [List.take_length] at hI
        have HE := Lib.hid (And.intro hI (And.intro hB (And.intro hsz hZ)))
        clear hI hB hsz hZ
        go_wp2
        go_end0
        exact ⟨⟨_, rfl⟩, HE.out⟩
set_option maxHeartbeats 4000000 in
theorem printT_any (L : List Nd) (v : Value) (P : Nat → Prop) (w : World) [T w] (hv : VsAt w P v L) (ht : tots L ≤ 90000) (d : Bs) (e : Int) (hr : printT L = (d, e)) :
    Calls Tryz.prog 16 #[v] w fun en w' => en = .returned (.tuple #[sV d, intV e]) ∧ Below w.heap.size w w' := by
  have HV := Lib.hid hv
  obtain ⟨a, c, rfl, hvi⟩ := id hv
  clear hvi
  have HR := Lib.hid hr
  obtain ⟨k, hk⟩ : ∃ k, ckR L = k := ⟨_, rfl⟩
  have HK := Lib.hid hk
  have HCK := Lib.hid (checkT_any L _ P w hv ht k hk)
  clear hr hv hk
  go_enter Tryz.func16, Tryz.ntmps16
  go_wp2_with fail
  refine HCK.out.mono ?_
  rintro en w1 ⟨rfl, h1⟩
  have H1 := Lib.hid h1
  have hs1 := h1.size
  clear h1 HCK
  by_cases hk0 : k = 0
  · have q1 : (k != 0) = false := by simp [hk0]
    obtain ⟨t1, t2, t3, t4⟩ := ck_zero (HK.out.trans hk0)
    have HZ := Lib.hid (show d = outL L ∧ e = 0 by
      have h := HR.out
      unfold printT at h
      rw [HK.out, if_pos hk0] at h
      exact ⟨(Prod.mk.inj h).1.symm, (Prod.mk.inj h).2.symm⟩)
    obtain ⟨w3, hw3⟩ : ∃ X, ((w1.alloc (.cells #[.pointer none, .slice none 0 0] 67)).alloc (.cells #[wrV w1.heap.size (w1.heap.size + 1)] wT (0, 0))) = X := ⟨_, rfl⟩
    obtain ⟨s3, k1, k2, kb⟩ := heap_allocT2 w1 _ _ hw3
    have hI3 : IsB w1.heap.size w1.heap.size (Lib.byteCells []) w3 := by
      rw [← hw3]
      exact isB_grownM (isB_newM w1 w1.heap.size (Nat.le_refl _)) (below_alloc _ _)
    have hbw : Below w.heap.size w w3 := H1.out.trans (kb.mono H1.out.size)
    have HREC := Lib.hid (write_any w P w1.heap.size w1.heap.size (w1.heap.size + 1) hs1 (tots L) L (Nat.le_refl _) ht false false t3 [] (by simp; omega) (.slice a L.length c) w3 HV.out hbw (by omega) hI3 k2)
    have HW3 := Lib.hid hw3
    have z3 := box1T k2
    have HS3 := Lib.hid (And.intro s3 hbw)
    rw [← hw3] at z3
    clear hk0 t1 t2 t3 t4 hw3 s3 k1 k2 kb hI3 hbw ht
    go_wp2_with fail
    rw [HW3.out]
    refine HREC.out.mono ?_
    rintro e2 w4 ⟨⟨u4, rfl⟩, hI4, hB4, hs4, hZ4⟩
    rw [List.nil_append] at hI4
    have HX4 := Lib.hid (And.intro hI4 (And.intro hB4 hs4))
    clear hI4 hB4 hs4 hZ4 z3 HREC
    go_wp2_with fail
    refine (Tryz.Builder_String_any w1.heap.size w1.heap.size _ _ HX4.out.1 (by have := HX4.out.2.2; have := HS3.out.1; omega)).mono ?_
    rintro e2 w5 ⟨rfl, hb5⟩
    have HB5 := Lib.hid (HX4.out.2.1.trans (hb5.mono hs1))
    clear hb5
    go_wp2
    go_ret2
    exact ⟨by rw [HZ.out.1, HZ.out.2]; rfl, HB5.out⟩
  · have q1 : (k != 0) = true := by simpa using hk0
    have HZ := Lib.hid (show d = [] ∧ e = 1 by
      have h := HR.out
      unfold printT at h
      rw [HK.out, if_neg hk0] at h
      exact ⟨(Prod.mk.inj h).1.symm, (Prod.mk.inj h).2.symm⟩)
    clear hk0 ht
    go_wp2
    go_ret2
    exact ⟨by rw [HZ.out.1, HZ.out.2]; rfl, H1.out⟩
end Go.Proofs.YtmfcepfagbkceaaGreatDoor
