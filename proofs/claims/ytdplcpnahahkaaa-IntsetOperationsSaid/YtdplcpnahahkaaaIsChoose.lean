/- The search of layer 4's own Cover: the closure of firstCover. -/
import Derived.Test.YtdplcpnahahkaaaIsCovM
import Derived.Test.YtdplcpnahahkaaaIsOps
import Derived.Deep.RegionHeld3
namespace Go.Proofs.Ytdplcpnahahkaaa
set_option linter.unusedSimpArgs false
set_option linter.unusedVariables false
set_option maxRecDepth 100000
open Go.RowKit Go.Shelf Go.Deep

abbrev pV (b : Nat) : Value := .pointer (some ⟨b, 0, none⟩)
abbrev chF (bc bw bp bh bx : Nat) : Value := .func (.func 69) #[] #[pV bc, pV bw, pV bp, pV bh, pV bx]
/-- what the search works with -/
structure Ch (g count : Nat) (P : List Nat) (whole bc bw bp bh bx bP : Nat) (W : World) (ys : List Int) : Prop where
  len : ys.length = count
  nc : bc ≠ g
  nw : bw ≠ g
  np : bp ≠ g
  nh : bh ≠ g
  nx : bx ≠ g
  nP : bP ≠ g
  cc : W.cell? ⟨bc, 0, none⟩ = some (intV count)
  cw : W.cell? ⟨bw, 0, none⟩ = some (u64V whole)
  cp : W.cell? ⟨bp, 0, none⟩ = some (.slice (some ⟨bP, 0, none⟩) P.length P.length)
  cP : ∀ j (h : j < P.length), W.cell? ⟨bP, j, none⟩ = some (u64V P[j])
  ch : W.cell? ⟨bh, 0, none⟩ = some (.slice (some ⟨g, 0, none⟩) count count)
  cx : W.cell? ⟨bx, 0, none⟩ = some (chF bc bw bp bh bx)
  row : W.ownsRow g 3 1 (.slice (some ⟨g, 0, none⟩) count count) count (ys.map intV)
theorem cell_set_other {W : World} {g place b j : Nat} {v : Value} (h : b ≠ g) : (W.setCell ⟨g, place, none⟩ v).cell? ⟨b, j, none⟩ = W.cell? ⟨b, j, none⟩ := by
  unfold World.cell?
  rw [Below.heap_setCell W ⟨g, place, none⟩ v b h]
theorem Ch.drewN {g count : Nat} {P : List Nat} {whole bc bw bp bh bx bP : Nat} {W : World} {ys : List Int} (h : Ch g count P whole bc bw bp bh bx bP W ys) (n : Nat) : Ch g count P whole bc bw bp bh bx bP (W.drewN n) ys :=
  ⟨h.len, h.nc, h.nw, h.np, h.nh, h.nx, h.nP, h.cc, h.cw, h.cp, h.cP, h.ch, h.cx, h.row⟩
theorem Ch.drew {g count : Nat} {P : List Nat} {whole bc bw bp bh bx bP : Nat} {W : World} {ys : List Int} (h : Ch g count P whole bc bw bp bh bx bP W ys) : Ch g count P whole bc bw bp bh bx bP W.drew ys :=
  ⟨h.len, h.nc, h.nw, h.np, h.nh, h.nx, h.nP, h.cc, h.cw, h.cp, h.cP, h.ch, h.cx, h.row⟩
theorem Ch.set {g count : Nat} {P : List Nat} {whole bc bw bp bh bx bP : Nat} {W : World} {ys : List Int} (h : Ch g count P whole bc bw bp bh bx bP W ys) (place : Nat) (i : Int) : Ch g count P whole bc bw bp bh bx bP (W.setCell ⟨g, place, none⟩ (intV i)) (ys.set place i) := by
  refine ⟨by simp [h.len], h.nc, h.nw, h.np, h.nh, h.nx, h.nP, ?_, ?_, ?_, fun j hj => ?_, ?_, ?_, ?_⟩
  · rw [cell_set_other h.nc]; exact h.cc
  · rw [cell_set_other h.nw]; exact h.cw
  · rw [cell_set_other h.np]; exact h.cp
  · rw [cell_set_other h.nP]; exact h.cP j hj
  · rw [cell_set_other h.nh]; exact h.ch
  · rw [cell_set_other h.nx]; exact h.cx
  · have := (h.row.stored place (intV i)).1
    rw [List.map_set]
    exact this

def ChPost (g count : Nat) (P : List Nat) (whole bc bw bp bh bx bP k place f m : Nat) (W : World) (ys : List Int) (r : Bool) (W' : World) : Prop :=
  Below g W W' ∧ ((r = true ∧ ∃ c, FirstG P whole f m k c ∧ Ch g count P whole bc bw bp bh bx bP W' (ys.take place ++ upL c)) ∨
    (r = false ∧ (∀ c, ¬ Good P whole f m k c) ∧ ∃ ys', Ch g count P whole bc bw bp bh bx bP W' ys' ∧ ys'.take place = ys.take place))

theorem ChPost.any {g count : Nat} {P : List Nat} {whole bc bw bp bh bx bP k place f m : Nat} {W : World} {ys : List Int} {r : Bool} {W' : World} (h : ChPost g count P whole bc bw bp bh bx bP k place f m W ys r W') : ∃ ys', Ch g count P whole bc bw bp bh bx bP W' ys' := by
  obtain ⟨_, ⟨_, c, _, h⟩ | ⟨_, _, ys', h, _⟩⟩ := h
  · exact ⟨_, h⟩
  · exact ⟨_, h⟩
theorem below_drew1 (N : Nat) (w : World) : Below N w w.drew := ⟨rfl, rfl, rfl, Nat.le_refl _, fun _ _ => rfl⟩
theorem take_set_next (ys : List Int) (place : Nat) (h : place < ys.length) (x : Int) : (ys.set place x).take (place + 1) = ys.take place ++ [x] := by
  rw [List.take_succ_eq_append_getElem (by simpa using h)]
  congr 1
  · rw [List.take_set_of_le (Nat.le_refl _)]
  · simp

set_option maxHeartbeats 4000000 in
theorem choose_any (g count : Nat) (P : List Nat) (hP : ∀ m ∈ P, m < 18446744073709551616) (hn : P.length ≤ 1000) (hcount : count ≤ 1000) (whole bc bw bp bh bx bP : Nat) : ∀ k place f m : Nat, place + k = count → f ≤ P.length → m < 18446744073709551616 →
    ∀ W ys, Ch g count P whole bc bw bp bh bx bP W ys →
    Calls Try.prog 69 #[intV place, intV f, u64V m, pV bc, pV bw, pV bp, pV bh, pV bx] W fun e W' => ∃ r, e = .returned (.bool r) ∧ ChPost g count P whole bc bw bp bh bx bP k place f m W ys r W' := by
  intro k
  induction k with
  | zero =>
    intro place f m hk hf hm W ys hC
    have e1 := hC.cc
    have e2 := hC.cw
    have HC := Lib.hid hC
    have hpc : (place : Int) = (count : Int) := by omega
    clear hC hf
    go_enter Try.func69, Try.ntmps69
    go_wp2
    go_ret
    refine ⟨_, rfl, Below.refl _ _, ?_⟩
    by_cases h : m = whole
    · exact .inl ⟨by simp [h], [], good_nil h, by
        have : ys.take place = ys := by rw [List.take_of_length_le]; rw [HC.out.len]; omega
        rw [this]; simpa [upL] using HC.out⟩
    · exact .inr ⟨by rw [beq_eq_false_iff_ne]; omega, good_none h, ys, HC.out, rfl⟩
  | succ k ih =>
    intro place f m hk hf hm W ys hC
    have HC := Lib.hid hC
    have IH := Lib.hid ih
    have HP := Lib.hid hP
    have e1 := hC.cc
    have hpc : ((place : Int) == (count : Int)) = false := by rw [beq_eq_false_iff_ne]; omega
    clear hC ih hP
    go_enter Try.func69, Try.ntmps69
    go_wp2
    go_loopw [12] (fun i wr => ∃ (j : Nat) (ys' : List Int), f ≤ j ∧ j ≤ P.length ∧ i = .int .i64 j ∧ Ch g count P whole bc bw bp bh bx bP wr ys' ∧ ys'.take place = ys.take place ∧ Below g W wr ∧ NoneTo P whole f m (k + 1) j) (fun i _ => P.length - (intOf i).toNat)
    case atStart => exact ⟨f, ys, Nat.le_refl _, hf, rfl, HC.out, rfl, Below.refl _ _, none_start⟩
    case round =>
      obtain ⟨i, ys', hfi, hi, rfl, hC, ht, hB, hN⟩ := hrel
      obtain ⟨wk, rfl⟩ : ∃ x, x = wr := ⟨_, rfl⟩
      have H1 := Lib.hid hC
      have HT := Lib.hid ht
      have HB := Lib.hid hB
      have HN := Lib.hid hN
      have e2 := hC.cp
      clear ht hB hN e1
      by_cases hlt : i < P.length
      · have e3 := hC.ch
        have e4 := hC.row.frozenAt place
        have hpy : place < ys'.length := by rw [hC.len]; omega
        obtain ⟨y, e5⟩ : ∃ y : Int, wk.cell? ⟨g, place, none⟩ = some (intV y) := ⟨ys'[place], by rw [hC.row.cellAt place (by omega), List.getElem?_map, List.getElem?_eq_getElem hpy]; rfl⟩
        have hC1 := hC.set place (i : Int)
        have f1 := hC1.cx
        have f2 := hC1.cp
        have f3 := hC1.cP i hlt
        have hPi : P[i] < 18446744073709551616 := HP.out _ (List.getElem_mem hlt)
        have hget : P.getD i 0 = P[i] := by rw [List.getD_eq_getElem?_getD, List.getElem?_eq_getElem hlt]; rfl
        obtain ⟨p, hp⟩ : ∃ p, P[i] = p := ⟨_, rfl⟩
        rw [hp] at f3 hPi hget
        have HPI := Lib.hid hp
        have hor : bits BinOp.or IntKind.u64 (m : Int) (p : Int) = ((m ||| p : Nat) : Int) := u64_or_nat m p hm hPi
        have hmp : m ||| p < 18446744073709551616 := by
          have := Nat.or_lt_two_pow (n := 64) (x := m) (y := p) (by simpa using hm) (by simpa using hPi)
          simpa using this
        obtain ⟨p1, hp1⟩ : ∃ p1, place + 1 = p1 := ⟨_, rfl⟩
        obtain ⟨i1, hi1⟩ : ∃ i1, i + 1 = i1 := ⟨_, rfl⟩
        obtain ⟨q, hq⟩ : ∃ q, m ||| p = q := ⟨_, rfl⟩
        rw [hq] at hor hmp
        have hwp : IntKind.i64.wrap ((place : Int) + 1) = (p1 : Int) := by rw [← hp1]; exact IntWalk.i64_in _ (by omega)
        have hwi : IntKind.i64.wrap ((i : Int) + 1) = (i1 : Int) := by rw [← hi1]; exact IntWalk.i64_in _ (by omega)
        have HCALL := Lib.hid (fun W ys h => IH.out p1 i1 q (by omega) (by omega) hmp W ys h)
        have HV := Lib.hid (And.intro hp1 (And.intro hi1 hq))
        clear hp1 hi1 hq
        have HG := Lib.hid hget
        have H2 := Lib.hid hC1
        have hii : (i : Int) < (P.length : Int) := by omega
        clear hC hC1 hp hget hmp
        obtain ⟨w1, hw1⟩ : ∃ w1, wk.setCell ⟨g, place, none⟩ (intV i) = w1 := ⟨_, rfl⟩
        have HBw := Lib.hid (show Below g W w1 by rw [← hw1]; exact HB.out.setCell (p := ⟨g, place, none⟩) (Nat.le_refl _) _)
        rw [hw1] at f1 f2 f3 H2
        go_wp2_with fail
        clear e2 e3 e4 e5 hw1
        have d1 : w1.drew.cell? ⟨bx, 0, none⟩ = some (chF bc bw bp bh bx) := f1
        have d2 : w1.drew.cell? ⟨bp, 0, none⟩ = some (.slice (some ⟨bP, 0, none⟩) P.length P.length) := f2
        have d3 : w1.drew.cell? ⟨bP, i, none⟩ = some (u64V p) := f3
        have HD := Lib.hid (And.intro d1 (And.intro d2 d3))
        clear d1 d2 d3 f1 f2 f3
        go_region_held3 (fun w' => w'.cell? ⟨bx, 0, none⟩ = some (chF bc bw bp bh bx) ∧ w'.cell? ⟨bp, 0, none⟩ = some (.slice (some ⟨bP, 0, none⟩) P.length P.length) ∧ w'.cell? ⟨bP, i, none⟩ = some (u64V p))
          (first | exact HD.out | exact HS2.out)
          (first | ((try go_simp); go_at_call 69; refine (HCALL.out _ _ H2.out.drew).mono ?_; rintro e w2 ⟨r, rfl, hpost⟩; have HPOST := Lib.hid hpost; obtain ⟨ys2, hc2⟩ := hpost.any; have HS2 := Lib.hid (And.intro hc2.cx (And.intro hc2.cp (HPI.out ▸ hc2.cP i hlt))); clear hc2 hpost))
        have hpos := HPOST.out
        obtain ⟨e1', e2', e3'⟩ := HV.out
        obtain ⟨hb2, h⟩ := hpos
        have HB2 := Lib.hid ((HBw.out.trans (below_drew1 g w1)).trans hb2)
        clear hb2 HS2
        rcases h with ⟨rfl, c, hF, hC2⟩ | ⟨rfl, hNo, ys2, hC2, ht2⟩
        · have HF := Lib.hid hF
          have H3 := Lib.hid hC2
          clear hF hC2 e1' e2' e3'
          go_wp2
          go_ret
          refine ⟨_, rfl, HB2.out, .inl ⟨rfl, i :: c, ?_, ?_⟩⟩
          · refine first_step HN.out hfi hlt ?_
            obtain ⟨_, e2', e3'⟩ := HV.out
            rw [HG.out, e2', e3']
            exact HF.out
          · have := H3.out
            obtain ⟨e1', _, _⟩ := HV.out
            rw [← e1', take_set_next _ _ (by rw [H1.out.len]; omega), HT.out, List.append_assoc] at this
            exact this
        · have HNo := Lib.hid hNo
          have H3 := Lib.hid hC2
          have HT2 := Lib.hid ht2
          have HI1 := Lib.hid e2'
          clear hNo hC2 ht2 e1' e2' e3'
          go_wp2
          go_roundw
          case rel =>
            have e2' := HI1.out
            refine ⟨i1, ys2, by omega, by omega, by go_num, H3.out, ?_, HB2.out, ?_⟩
            · have := congrArg (List.take place) HT2.out
              obtain ⟨e1', _, _⟩ := HV.out
              rw [← e1', take_set_next _ _ (by rw [H1.out.len]; omega), List.take_take, Nat.min_eq_left (by omega), List.take_left' (by rw [List.length_take, H1.out.len]; omega), HT.out] at this
              exact this
            · rw [← HI1.out]
              refine none_step HN.out ?_
              obtain ⟨_, e2', e3'⟩ := HV.out
              rw [HG.out, e2', e3']
              exact HNo.out
          case measure =>
            have e2' := HI1.out
            simp [intOf]; omega
      · obtain rfl : i = P.length := by omega
        have H2 := Lib.hid hC
        clear hC
        go_wp2
        go_ret
        exact ⟨_, rfl, HB.out, .inr ⟨rfl, none_end HN.out, ys', H2.out, HT.out⟩⟩
end Go.Proofs.Ytdplcpnahahkaaa
