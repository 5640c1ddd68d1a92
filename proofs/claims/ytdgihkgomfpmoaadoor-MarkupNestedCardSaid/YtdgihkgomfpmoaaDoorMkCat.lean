/- slices.Concat of lists of lexemes; the laws' shifted. -/
import Derived.Test.YtdgihkgomfpmoaaDoorMkOwn
namespace Go.Proofs.YtdgihkgomfpmoaaDoor
set_option linter.unusedSimpArgs false
set_option linter.unusedVariables false
set_option maxRecDepth 100000
open Go.RowKit Go.Deep

/-- lists of lists of lexemes -/
def LLAt (W : World) (v : Value) (L : List (List Lx)) : Prop :=
  ∃ a cap, v = .slice a L.length cap ∧ (0 < L.length → ∃ b off, a = some ⟨b, off, none⟩ ∧ b < W.heap.size ∧ ∀ j (h : j < L.length), ∃ u, W.cell? ⟨b, off + j, none⟩ = some u ∧ LexAt W u L[j])
theorem LLAt.below {W W' : World} {v : Value} {L : List (List Lx)} (h : LLAt W v L) (hB : Below W.heap.size W W') : LLAt W' v L := by
  obtain ⟨a, cap, rfl, hc⟩ := h
  refine ⟨a, cap, rfl, fun h0 => ?_⟩
  obtain ⟨b, off, ha, hb, hcs⟩ := hc h0
  refine ⟨b, off, ha, Nat.lt_of_lt_of_le hb hB.size, fun j hj => ?_⟩
  obtain ⟨u, h1, h2⟩ := hcs j hj
  exact ⟨u, (hB.cell (p := ⟨b, off + j, none⟩) hb).trans h1, h2.below hB⟩
theorem LLAt.slice {W : World} {v : Value} {L : List (List Lx)} (h : LLAt W v L) : ∃ a cap, v = .slice a L.length cap := by obtain ⟨a, c, rfl, _⟩ := h; exact ⟨a, c, rfl⟩
theorem LLAt.elem {W : World} {a : Option Addr} {n cap : Nat} {L : List (List Lx)} (h : LLAt W (.slice a n cap) L) {j : Nat} (hj : j < L.length) :
    ∃ b off u c, a = some ⟨b, off, none⟩ ∧ b < W.heap.size ∧ W.cell? ⟨b, off + j, none⟩ = some (.slice u L[j].length c) ∧ LexAt W (.slice u L[j].length c) L[j] := by
  obtain ⟨a', cap', e, hc⟩ := h
  cases e
  obtain ⟨b, off, rfl, hb, hcs⟩ := hc (by omega)
  obtain ⟨u, h1, h2⟩ := hcs j hj
  obtain ⟨u', c', rfl⟩ := h2.slice
  exact ⟨b, off, u', c', rfl, hb, h1, h2⟩
theorem ll_lit (w : World) (us : List Value) (L : List (List Lx)) (hl : us.length = L.length) (hI : ∀ j (h : j < L.length), LexAt w (us[j]'(by omega)) L[j]) : LLAt (w.alloc (.cells us.toArray 22)) (.slice (some ⟨w.heap.size, 0, none⟩) L.length L.length) L := by
  refine ⟨_, _, rfl, fun h0 => ⟨_, _, rfl, by simp, fun j hj => ⟨us[j]'(by omega), ?_, (hI j hj).below (alloc_below _ _)⟩⟩⟩
  rw [Nat.zero_add, World.cell?_alloc_new]
  simp [hl, hj]
theorem flat_succ {α : Type} (L : List (List α)) (k : Nat) (h : k < L.length) : (L.take (k + 1)).flatten = (L.take k).flatten ++ L[k] := by
  rw [List.take_succ_eq_append_getElem h, List.flatten_append]; simp
theorem flat_take {α : Type} (L : List (List α)) (k : Nat) : (L.take k).flatten.length ≤ L.flatten.length := by
  have h : L.flatten = (L.take k).flatten ++ (L.drop k).flatten := by rw [← List.flatten_append, List.take_append_drop]
  rw [h, List.length_append]; omega
set_option maxHeartbeats 4000000 in
theorem concat_any (L : List (List Lx)) (hL : L.length ≤ 1000) (hl : L.flatten.length ≤ 1000000) (v : Value) (w : World) (hv : LLAt w v L) :
    Calls Tryd.prog 17 #[v] w fun e w' => ∃ u, e = .returned u ∧ OwnX w.heap.size w' u L.flatten ∧ Below w.heap.size w w' := by
  have HV := Lib.hid hv
  obtain ⟨a, cap, rfl⟩ := hv.slice
  have HFT := Lib.hid (fun k => Nat.le_trans (flat_take L k) hl)
  have HFS := Lib.hid (fun k hk => flat_succ L k hk)
  obtain ⟨i0, hi, hz0, hz1, hz2⟩ := info_parts info_lx
  clear hv hl
  go_enter Tryd.func17, Tryd.ntmps17
  go_wp2
  go_loopw [3, 11] (fun sv i wr => ∃ k s : Nat, k ≤ L.length ∧ i = .int .i64 k ∧ sv = .int .i64 s ∧ s = (L.take k).flatten.length ∧ wr = w) (fun _ i _ => L.length - (intOf i).toNat)
  case atStart => exact ⟨0, 0, Nat.zero_le _, rfl, rfl, by simp, rfl⟩
  case round =>
    obtain ⟨k, s, hk, rfl, rfl, hs, rfl⟩ := hrel
    obtain ⟨wk, rfl⟩ : ∃ x, x = wr := ⟨_, rfl⟩
    have HS := Lib.hid hs
    have hsb : s ≤ 1000000 := by rw [hs]; exact HFT.out k
    clear hs
    by_cases hlt : k < L.length
    · obtain ⟨b, off, u, c, rfl, hbb, c0, hu⟩ := HV.out.elem hlt
      have hsb2 := HFT.out (k + 1)
      rw [HFS.out k hlt, List.length_append, ← HS.out] at hsb2
      have HS2 := Lib.hid (show s + L[k].length = (L.take (k + 1)).flatten.length by rw [HFS.out k hlt, List.length_append, HS.out])
      obtain ⟨m, hm⟩ : ∃ m, L[k].length = m := ⟨_, rfl⟩
      rw [hm] at c0 hsb2 HS2
      have hws : IntKind.i64.wrap ((s : Int) + (m : Int)) = ((s + m : Nat) : Int) := by rw [show (s : Int) + (m : Int) = ((s + m : Nat) : Int) by omega]; exact IntWalk.i64_in _ (by omega)
      have hnn : ¬ ((s + m : Nat) : Int) < 0 := by omega
      obtain ⟨t, ht⟩ : ∃ t, s + m = t := ⟨_, rfl⟩
      rw [ht] at hws hnn HS2
      clear hu hbb hm ht
      go_wp2
      go_roundw
      case rel => exact ⟨k + 1, t, by omega, by go_num, rfl, HS2.out, trivial⟩
      case measure => simp [intOf]; omega
    · obtain rfl : k = L.length := by omega
      have GR := Lib.hid (grow_any s (by omega) wk)
      go_wp2_with fail
      refine GR.out.mono ?_
      rintro e w2 ⟨u, rfl, ho, h2⟩
      have HO := Lib.hid ho
      have HB2 := Lib.hid h2
      clear ho h2
      go_wp2
      go_loopw [6, 27] (fun nv i wr => ∃ k : Nat, k ≤ L.length ∧ i = .int .i64 k ∧ OwnX wk.heap.size wr nv (L.take k).flatten ∧ Below wk.heap.size wk wr) (fun _ i _ => L.length - (intOf i).toNat)
      case atStart => exact ⟨0, Nat.zero_le _, rfl, HO.out, HB2.out⟩
      case round =>
        obtain ⟨k, hk, rfl, ho, hB⟩ := hrel
        obtain ⟨wr2, rfl⟩ : ∃ x, x = wr := ⟨_, rfl⟩
        have HO3 := Lib.hid ho
        have HB3 := Lib.hid hB
        by_cases hlt : k < L.length
        · obtain ⟨b, off, u, c, rfl, hbb, c0, hu⟩ := HV.out.elem hlt
          have c1 := (hB.cell (p := ⟨b, off + k, none⟩) hbb).trans c0
          have HI := Lib.hid (hu.below hB)
          have HF := Lib.hid (HFS.out k hlt)
          have hsb2 := HFT.out (k + 1)
          rw [HF.out, List.length_append] at hsb2
          obtain ⟨S, hS⟩ : ∃ S, (L.take k).flatten = S := ⟨_, rfl⟩
          obtain ⟨y, hy⟩ : ∃ y, L[k] = y := ⟨_, rfl⟩
          rw [hS, hy] at hsb2 HF
          rw [hS] at HO3
          rw [hy] at c1 HI
          clear ho hB c0 hbb hu hS hy
          go_wp2_with (at_builtin; refine wpList_append_lx rfl _ _ 22 rfl wk.heap.size 36 i0 _ 48 Tryd.underlying22 hi hz0 hz1 hz2 rfl _ S rfl HO3.out u c y rfl HI.out (by omega) (by decide) HB3.out.size ?_; intro v' w3 hown' hgrow; have HO4 := Lib.hid hown'; have HB4 := Lib.hid (HB3.out.grown hgrow HB3.out.size (fun q hq => (HO3.out.lt q hq).1)); clear hown' hgrow)
          go_roundw
          case rel => exact ⟨k + 1, by omega, by go_num, by rw [HF.out]; exact HO4.out, HB4.out⟩
          case measure => simp [intOf]; omega
        · obtain rfl : k = L.length := by omega
          have HI := Lib.hid ho
          rw [List.take_length] at HI
          clear ho hB
          go_wp2
          go_ret
          exact ⟨_, rfl, HI.out, HB3.out⟩
/- a lexeme's offset is stored -/
def setO (x : Lx) (o : Int) : Lx := ⟨x.k, x.n, x.v, o⟩
theorem flatX_set : ∀ (L : List Lx) (i : Nat) (h : i < L.length) (o : Int), (L.flatMap cellsX).set (i * 4 + 3) (intV o) = (L.set i (setO L[i] o)).flatMap cellsX
  | [], i, h, _ => absurd h (by simp)
  | x :: L, 0, _, o => by simp [List.flatMap_cons, cellsX, setO]
  | x :: L, i + 1, h, o => by
    have := flatX_set L i (by simpa using h) o
    rw [List.flatMap_cons, show (i + 1) * 4 + 3 = (i * 4 + 3) + (cellsX x).length by simp [cellsX]; omega, List.set_append_right _ _ (by omega), Nat.add_sub_cancel, this, List.set_cons_succ, List.flatMap_cons]
    rfl
theorem OwnX.form {B : Nat} {W : World} {v : Value} {L : List Lx} (h : OwnX B W v L) (hn : 0 < L.length) : ∃ g cap, v = .slice (some ⟨g, 0, none⟩) L.length cap ∧ B ≤ g ∧ g < W.heap.size := by
  rcases h.2 with ⟨rfl, h0⟩ | ⟨g, cap, cur, rfl, h1, h2, _⟩
  · omega
  · exact ⟨g, cap, rfl, h1, (Array.getElem?_eq_some_iff.1 h2).1⟩
theorem OwnX.slice {B : Nat} {W : World} {v : Value} {L : List Lx} (h : OwnX B W v L) : ∃ a cap, v = .slice a L.length cap := h.lex.slice
theorem OwnX.stored {B : Nat} {W : World} {g n cap : Nat} {L : List Lx} (h : OwnX B W (.slice (some ⟨g, 0, none⟩) n cap) L) {i : Nat} (hi : i < L.length) (o : Int) :
    OwnX B (W.setCell ⟨g, i * 4 + 3, none⟩ (intV o)) (.slice (some ⟨g, 0, none⟩) n cap) (L.set i (setO L[i] o)) ∧ Below B W (W.setCell ⟨g, i * 4 + 3, none⟩ (intV o)) := by
  obtain ⟨g', cap', e, hB, hg⟩ := h.form (by omega)
  cases e
  have h1 := (World.ownsRow.stored h (i * 4 + 3) (intV o)).1
  rw [flatX_set L i hi] at h1
  refine ⟨?_, (Below.refl _ _).setCell hB _⟩
  unfold OwnX
  rw [List.length_set]
  exact h1
theorem shift_step (d : Int) (L : List Lx) (i : Nat) (h : i < L.length) :
    (((L.take i).map fun x => setO x (x.o + d)) ++ L.drop i).set i (setO L[i] (L[i].o + d)) = ((L.take (i + 1)).map fun x => setO x (x.o + d)) ++ L.drop (i + 1) := by
  have hl : ((L.take i).map fun x => setO x (x.o + d)).length = i := by rw [List.length_map, List.length_take]; omega
  rw [List.drop_eq_getElem_cons h, List.set_append_right _ _ (by omega), hl, Nat.sub_self, List.set_cons_zero, List.take_succ_eq_append_getElem h, List.map_append]
  simp
set_option maxHeartbeats 4000000 in
theorem shifted_any (L : List Lx) (hl : L.length ≤ 1000000) (d : Nat) (hd : d ≤ 1000000) (ho : ∀ x ∈ L, 0 ≤ x.o ∧ x.o ≤ 1000000) (v : Value) (w : World) (hv : LexAt w v L) :
    Calls Tryd.prog 18 #[v, intV d] w fun e w' => ∃ u, e = .returned u ∧ LexAt w' u (shiftL d L) ∧ Below w.heap.size w w' := by
  have HC := Lib.hid (clone_any L hl v w hv)
  obtain ⟨a, cap, rfl⟩ := hv.slice
  have HO := Lib.hid ho
  clear hv ho
  go_enter Tryd.func18, Tryd.ntmps18
  go_wp2_with fail
  refine HC.out.mono ?_
  rintro e w1 ⟨u, rfl, h1, b1⟩
  have HU := Lib.hid h1
  have B1 := Lib.hid b1
  obtain ⟨au, cu, rfl⟩ := h1.slice
  clear h1 b1
  go_wp2
  go_loopw [11] (fun i wr => ∃ k : Nat, k ≤ L.length ∧ i = .int .i64 k ∧ OwnX w.heap.size wr (.slice au L.length cu) (((L.take k).map fun x => setO x (x.o + d)) ++ L.drop k) ∧ Below w.heap.size w wr) (fun i _ => L.length - (intOf i).toNat)
  case atStart => exact ⟨0, Nat.zero_le _, rfl, HU.out, B1.out⟩
  case round =>
    obtain ⟨k, hk, rfl, ho, hB⟩ := hrel
    obtain ⟨wk, rfl⟩ : ∃ x, x = wr := ⟨_, rfl⟩
    by_cases hlt : k < L.length
    · have hlen : (((L.take k).map fun x => setO x (x.o + d)) ++ L.drop k).length = L.length := by simp; omega
      obtain ⟨g, cap', e, hg1, hg2⟩ := ho.form (by omega)
      rw [hlen] at e
      cases e
      have hst := shift_step d L k hlt
      have hkl : k < (((L.take k).map fun x => setO x (x.o + d)) ++ L.drop k).length := by omega
      have hel : (((L.take k).map fun x => setO x (x.o + d)) ++ L.drop k)[k] = L[k] := by
        rw [List.getElem_append_right (by simp; omega)]; simp [show min k L.length = k by omega]
      have hc := (ho.lex.elem hkl)
      rw [hel] at hc
      obtain ⟨b', off', e', _, _, _, _, c4⟩ := hc
      cases e'
      rw [Nat.zero_add] at c4
      have hfz := World.ownsRow.frozenAt (n := L.length) (by have := ho; unfold OwnX at this; rw [hlen] at this; exact this) (k * 4 + 3)
      have hs2 := ho.stored hkl (L[k].o + d)
      rw [hel, hst] at hs2
      have HS := Lib.hid hs2.1
      have HB := Lib.hid (hB.trans hs2.2)
      obtain ⟨x0, x1⟩ := HO.out L[k] (List.getElem_mem hlt)
      obtain ⟨z, hz⟩ : ∃ z, L[k].o = z := ⟨_, rfl⟩
      rw [hz] at c4 x0 x1 HS HB
      have hw : IntKind.i64.wrap (z + (d : Int)) = z + (d : Int) := IntWalk.i64_in _ (by omega)
      have i0 : (0 : Int) ≤ (k : Int) := by omega
      have i1 : (k : Int) < (L.length : Int) := by omega
      clear ho hB hst hkl hel hs2 hz hlen
      go_wp2
      go_roundw
      case rel => exact ⟨k + 1, by omega, by go_num, HS.out, HB.out⟩
      case measure => simp [intOf]; omega
    · obtain rfl : k = L.length := by omega
      have HS := Lib.hid ho
      rw [List.take_length, List.drop_length, List.append_nil] at HS
      have HB := Lib.hid hB
      clear ho hB
      go_wp2
      go_ret
      exact ⟨_, rfl, HS.out.lex, HB.out⟩
end Go.Proofs.YtdgihkgomfpmoaaDoor
