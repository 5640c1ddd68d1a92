/- Stage 10 (transcript): MkPK, put together by merge10.py. -/
import Derived.Test.YtmfcepfagbkceaaGreatDoorOe
import Derived.Test.YtmfcepfagbkceaaGreatDoorOc3
namespace Go.Proofs.YtmfcepfagbkceaaGreatDoor
set_option linter.unusedSimpArgs false
set_option linter.unusedVariables false
set_option maxRecDepth 100000
open Go.RowKit Go.Deep
theorem al_form {x : Lx} (h : alR x = 0) : wrF x.k x.n x.v = form x := by
  unfold alR at h
  by_cases h1 : x.k = 1
  · exact wr_form (.inl h1) (fun h3 => by omega)
  · rw [if_neg h1] at h
    by_cases h2 : x.k = 2 ∨ x.k = 3 ∨ x.k = 4
    · rw [if_pos h2] at h
      refine wr_form (by omega) (fun h3 => ?_)
      unfold ctR at h
      split at h
      · cases h
      · by_cases hv : x.v = []
        · exact hv
        · rw [decide_eq_false hv] at h
          cases h
    · rw [if_neg h2] at h; cases h
theorem wr_len (k : Int) (n v : Bs) : (wrF k n v).length ≤ n.length + v.length + 5 := by
  unfold wrF
  have h1 : (if k = 3 then [60, 47] else [60] : Bs).length ≤ 2 := by split <;> simp
  have h2 : (if k = 4 then [47, 62] else [62] : Bs).length ≤ 2 := by split <;> simp
  split
  · omega
  · split
    · rw [List.length_append, List.length_append]; omega
    · rw [List.length_append, List.length_append, List.length_append, List.length_append, List.length_singleton]; omega
theorem chkF_cons (p : Bool) (o : Nat) (x : Lx) (M : List Lx) : chkF p o (x :: M) = if errX p o x ≠ 0 then errX p o x else chkF (decide (x.k = 1)) (o + (form x).length) M := rfl
set_option maxHeartbeats 4000000 in
theorem check_any (L : List Lx) (e : Int) (v : Value) (w : World) [T w] (hr : chkR L = e) (hv : LexAt w v L) (hb : LxB L) :
    Calls Tryz.prog 68 #[v] w fun en w' => en = .returned (intV e) ∧ Below w.heap.size w w' := by
  have HV := Lib.hid hv
  obtain ⟨a, cap, rfl⟩ := hv.slice
  have hl := hb.1
  have HR := Lib.hid (show chkF false 0 L = e from hr)
  have HLB := Lib.hid (fun k (h : k < L.length) => hb.2 L[k] (List.getElem_mem h))
  clear hr hv hb
  go_enter Tryz.func68, Tryz.ntmps68
  go_wp2
  go_loopw [3, 4, 11] (fun ov pv iv wr => ∃ (k o : Nat) (p : Bool), k ≤ L.length ∧ iv = .int .i64 k ∧ ov = .int .i64 o ∧ pv = .bool p ∧ o ≤ 65541 * k ∧ Hid (chkF p o (L.drop k) = e) ∧ Below w.heap.size w wr) (fun _ _ iv _ => L.length - (intOf iv).toNat)
  case atStart => exact ⟨0, 0, false, Nat.zero_le _, rfl, rfl, rfl, by omega, HR, Below.refl _ _⟩
  case round =>
    obtain ⟨k, o, p, hk, rfl, rfl, rfl, hok, HE, hB⟩ := hrel
    obtain ⟨wk, rfl⟩ : ∃ x, x = wr := ⟨_, rfl⟩
    have HB := Lib.hid hB
    haveI : T wk := T.below hB
    by_cases hlt : k < L.length
    · obtain ⟨b, off, rfl, hbb, c1, c2, c3, c4⟩ := HV.out.elem hlt
      have d1 := (hB.cell (p := ⟨b, off + k * 4, none⟩) hbb).trans c1
      have d2 := (hB.cell (p := ⟨b, off + k * 4 + 1, none⟩) hbb).trans c2
      have d3 := (hB.cell (p := ⟨b, off + k * 4 + 2, none⟩) hbb).trans c3
      have d4 := (hB.cell (p := ⟨b, off + k * 4 + 3, none⟩) hbb).trans c4
      have hdr : L.drop k = L[k] :: L.drop (k + 1) := List.drop_eq_getElem_cons hlt
      have he := HE.out
      rw [hdr, chkF_cons, err_al] at he
      obtain ⟨_, _, m1, m2, m3⟩ := HLB.out k hlt
      obtain ⟨x, hx⟩ : ∃ x, L[k] = x := ⟨_, rfl⟩
      rw [hx] at d1 d2 d3 d4 he m1 m2 m3
      obtain ⟨wB, hwB⟩ : ∃ y, wk.alloc (.cells #[intV x.k, sV x.n, sV x.v, intV x.o] 52) = y := ⟨_, rfl⟩
      have hBB : Below wk.heap.size wk wB := by rw [← hwB]; exact below_alloc _ _
      have hbx : wB.heap[wk.heap.size]? = some (.cells #[intV x.k, sV x.n, sV x.v, intV x.o] 52 (0, 0)) := by rw [← hwB]; exact World.alloc_heap_new _ _
      have hsB : wB.heap.size = wk.heap.size + 1 := by rw [← hwB]; simp
      have HBB := Lib.hid (below_then hB hBB)
      haveI : T wB := T.below HBB.out
      obtain ⟨r, hr⟩ : ∃ r, alR x = r := ⟨_, rfl⟩
      have HAL := Lib.hid (alone_any x m1 (by omega) r hr wB)
      have HBX := Lib.hid hbx
      have HW := Lib.hid hwB
      have HAF := Lib.hid (fun h : r = 0 => al_form (x := x) (hr.trans h))
      rw [hr] at he
      have i0 : (0 : Int) ≤ (k : Int) := by omega
      have i1 : (k : Int) < (L.length : Int) := by omega
      obtain ⟨l0, l1, l2, l3⟩ := heap4P hbx
      have HEE := Lib.hid he
      clear c1 c2 c3 c4 hdr hx hwB hBB hbx hr he hB hbb
      go_upto_region 5 with fail
      rw [HW.out]
      go_wp2_with fail
      refine HAL.out.mono ?_
      rintro e' w2 ⟨rfl, h2⟩
      have hb2 := (h2.block _ (by omega)).trans HBX.out
      have B2 := Lib.hid (below_then HBB.out h2)
      haveI : T w2 := T.below B2.out
      have hs2 := h2.size
      clear h2 d1 d2 d3 d4 l0 l1 l2 l3
      by_cases hr0 : r = 0
      · have q0 : (r != 0) = false := by simp [hr0]
        have he := HEE.out
        have hfm := HAF.out hr0
        rw [if_neg (show ¬ r ≠ 0 from fun h => h hr0)] at he
        have HR0 := Lib.hid hr0
        clear hr0
        obtain ⟨l0, l1, l2, l3⟩ := heap4P hb2
        obtain ⟨xk, hxk⟩ : ∃ y, x.k = y := ⟨_, rfl⟩
        obtain ⟨xo, hxo⟩ : ∃ y, x.o = y := ⟨_, rfl⟩
        have HWR := Lib.hid (fun W => written_any x.k x.n x.v x.o (form x) hfm (by omega) (by omega) W)
        have hfl := wr_len x.k x.n x.v
        rw [hfm] at hfl
        rw [hxk, hxo] at HWR
        rw [hxk] at l0 he
        rw [hxo] at l3 he
        obtain ⟨fl, hfle⟩ : ∃ y, (form x).length = y := ⟨_, rfl⟩
        rw [hfle] at he hfl
        have hsz : (baL (form x)).size = fl := by rw [baL_size, hfle]
        have HX := Lib.hid (And.intro hxk (And.intro hxo hfle))
        have hw : IntKind.i64.wrap ((o : Int) + (fl : Int)) = ((o + fl : Nat) : Int) := by rw [show (o : Int) + (fl : Int) = ((o + fl : Nat) : Int) by omega]; exact IntWalk.i64_in _ (by omega)
        have hko : o + fl ≤ 65541 * (k + 1) := by omega
        clear hfm hxk hxo hfle hb2
        have htx : ((xk == 1) = true ∧ xk = 1) ∨ ((xk == 1) = false ∧ xk ≠ 1) := by
          by_cases h : xk = 1
          · exact .inl ⟨by simp [h], h⟩
          · exact .inr ⟨by simpa using h, h⟩
        have hpl : (p = true ∧ xk = 1) ∨ ¬ (xk = 1 ∧ p = true) := by
          by_cases h : xk = 1 ∧ p = true
          · exact .inl ⟨h.2, h.1⟩
          · exact .inr h
        rcases hpl with ⟨hp, h1⟩ | hnp
        · have hre : (10 : Int) = e := by
            rw [if_pos (show xk = 1 ∧ p = true from ⟨h1, hp⟩)] at he
            rw [if_pos (by decide)] at he
            exact he
          have q1 : (xk == 1) = true := by simp [h1]
          have HRE := Lib.hid hre
          subst hp
          clear he h1 hre htx
          go_wp2
          go_ret
          exact ⟨ret_intM HRE.out, B2.out⟩
        · rw [if_neg hnp] at he
          by_cases hoo : xo = (o : Int)
          · have q2 : (xo != (o : Int)) = false := by simp [hoo]
            have q2' : (xo == (o : Int)) = true := by simp [hoo]
            rw [if_neg (show ¬ xo ≠ (o : Int) from fun h => h hoo)] at he
            rw [if_neg (by decide)] at he
            have HFN := Lib.hid he
            clear he hoo
            rcases htx with ⟨q1, h1⟩ | ⟨q1, h1⟩
            · have hp : p = false := by
                cases p with
                | false => rfl
                | true => exact absurd ⟨h1, rfl⟩ hnp
              subst hp
              have HD := Lib.hid (decide_eq_true h1)
              clear hnp h1
              go_wp2_with fail
              refine (HWR.out _).mono ?_
              rintro e' w3 ⟨rfl, h3⟩
              have B3 := Lib.hid (below_then B2.out h3)
              clear h3
              go_wp2
              go_roundw
              case rel => exact ⟨k + 1, o + fl, true, by omega, by go_num, by go_num, rfl, hko, Lib.hid (by have := HFN.out; rw [HD.out] at this; exact this), B3.out⟩
              case measure => simp [intOf]; omega
            · have HD := Lib.hid (decide_eq_false h1)
              clear hnp h1
              go_wp2_with fail
              refine (HWR.out _).mono ?_
              rintro e' w3 ⟨rfl, h3⟩
              have B3 := Lib.hid (below_then B2.out h3)
              clear h3
              go_wp2
              go_roundw
              case rel => exact ⟨k + 1, o + fl, false, by omega, by go_num, by go_num, rfl, hko, Lib.hid (by have := HFN.out; rw [HD.out] at this; exact this), B3.out⟩
              case measure => simp [intOf]; omega
          · have q2 : (xo != (o : Int)) = true := by simpa using hoo
            have q2' : (xo == (o : Int)) = false := by simpa using hoo
            have hre : (9 : Int) = e := by
              rw [if_pos (show xo ≠ (o : Int) from hoo)] at he
              rw [if_pos (by decide)] at he
              exact he
            have HRE := Lib.hid hre
            clear he hoo hre
            rcases htx with ⟨q1, h1⟩ | ⟨q1, h1⟩
            · have hp : p = false := by
                cases p with
                | false => rfl
                | true => exact absurd ⟨h1, rfl⟩ hnp
              subst hp
              clear hnp h1
              go_wp2
              go_ret
              exact ⟨ret_intM HRE.out, B2.out⟩
            · clear hnp h1
              go_wp2
              go_ret
              exact ⟨ret_intM HRE.out, B2.out⟩
      · have q0 : (r != 0) = true := by simpa using hr0
        have hre : r = e := by
          have he := HEE.out
          rw [if_pos hr0, if_pos hr0] at he
          exact he
        have HRE := Lib.hid hre
        clear hr0 hre hb2
        go_wp2
        go_ret
        exact ⟨ret_intM HRE.out, B2.out⟩
    · have hkl : L.drop k = [] := List.drop_eq_nil_of_le (by omega)
      have he := HE.out
      rw [hkl] at he
      have hz : (if 65536 < o then 4 else 0 : Int) = e := he
      clear hB hkl he
      by_cases h6 : 65536 < o
      · rw [if_pos h6] at hz
        have q : decide ((65536 : Int) < (o : Int)) = true := decide_eq_true (by omega)
        have HZ := Lib.hid hz
        clear hz
        go_wp2
        go_ret
        exact ⟨ret_intM HZ.out, HB.out⟩
      · rw [if_neg h6] at hz
        have q : decide ((65536 : Int) < (o : Int)) = false := decide_eq_false (by omega)
        have HZ := Lib.hid hz
        clear hz
        go_wp2
        go_ret
        exact ⟨ret_intM HZ.out, HB.out⟩
end Go.Proofs.YtmfcepfagbkceaaGreatDoor
