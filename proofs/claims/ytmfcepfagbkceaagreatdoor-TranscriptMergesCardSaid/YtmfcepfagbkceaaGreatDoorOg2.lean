/- Stage 10 (transcript): MkPX, put together by merge10.py. -/
import Derived.Test.YtmfcepfagbkceaaGreatDoorOe1
import Derived.Test.YtmfcepfagbkceaaGreatDoorOf
import Derived.Test.YtmfcepfagbkceaaGreatDoorOg1
namespace Go.Proofs.YtmfcepfagbkceaaGreatDoor
set_option linter.unusedSimpArgs false
set_option linter.unusedVariables false
set_option maxRecDepth 100000
open Go.RowKit Go.Deep
theorem isB_grownM {B b : Nat} {bs : List Value} {w w' : World} (h : IsB B b bs w) (hb : Below w.heap.size w w') : IsB B b bs w' := by
  have hg := below_grownM hb
  have key : ∀ p, Lib.BuilderAt 67 5 B b p bs w → Lib.BuilderAt 67 5 B b p bs w' := by
    rintro p ⟨hB, v, hbk, ho, hne⟩
    refine ⟨hB, v, (hb.block b (lt_of_heap hbk)).trans hbk, ho.kept hg ?_, hne⟩
    rcases ho.2 with ⟨rfl, _⟩ | ⟨g, cap, cur, rfl, _, hgg, _⟩
    · exact .inl rfl
    · exact .inr (fun e => by cases e)
  exact h.imp (key _) (key _)
theorem isB_newM (w : World) (B : Nat) (hB : B ≤ w.heap.size) : IsB B w.heap.size [] (w.alloc (.cells #[.pointer none, .slice none 0 0] 67)) :=
  .inl ⟨hB, .slice none 0 0, World.alloc_heap_new _ _, World.ownsRow_nil _ _ _ _, by simp [Value.ownBlock]⟩
theorem bytes_more (l t : Bs) : Lib.byteCells l ++ Lib.strCells (baL t) = Lib.byteCells (l ++ t) := by
  rw [show Lib.strCells (baL t) = Lib.byteCells t from rfl]
  simp [Lib.byteCells]
theorem alR_of {L : List Lx} (h : chkR L = 0) : ∀ x ∈ L, alR x = 0 := by
  have key : ∀ (L : List Lx) (p : Bool) (o : Nat), chkF p o L = 0 → ∀ x ∈ L, alR x = 0 := by
    intro L
    induction L with
    | nil => intro _ _ _ x hx; cases hx
    | cons y M ih =>
      intro p o h x hx
      rw [chkF_cons] at h
      by_cases he : errX p o y = 0
      · rw [if_neg (fun q => q he)] at h
        rcases List.mem_cons.1 hx with rfl | hx
        · rw [err_al] at he
          by_cases ha : alR x = 0
          · exact ha
          · rw [if_pos ha] at he; exact absurd he ha
        · exact ih _ _ h x hx
      · rw [if_pos he] at h; exact absurd h he
  exact key L false 0 h
theorem written_of {L : List Lx} (hc : chkR L = 0) (hb : LxB L) : ∀ k (h : k < L.length) (W : World),
    Calls Tryz.prog 93 #[.agg #[intV L[k].k, sV L[k].n, sV L[k].v, intV L[k].o]] W fun e w' => e = .returned (sV (form L[k])) ∧ Below W.heap.size W w' := fun k h W => by
  have h1 := hb.2 L[k] (List.getElem_mem h)
  exact written_any _ _ _ _ _ (al_form (alR_of hc L[k] (List.getElem_mem h))) (by omega) (by omega) W
set_option maxHeartbeats 4000000 in
theorem print_any (L : List Lx) (t : Bs) (e : Int) (v : Value) (w : World) [T w] (hr : printR L = (t, e)) (hv : LexAt w v L) (hb : LxB L) :
    Calls Tryz.prog 103 #[v] w fun en w' => en = .returned (.tuple #[sV t, intV e]) ∧ Below w.heap.size w w' := by
  have HV := Lib.hid hv
  obtain ⟨a, cap, rfl⟩ := hv.slice
  have hl := hb.1
  by_cases hc : chkR L = 0
  · have hp : printR L = (prn L, 0) := by unfold printR; rw [if_pos hc]
    rw [hp] at hr
    cases hr
    obtain ⟨hpl, hval⟩ := chk_len hc
    have HCK := Lib.hid (check_any L 0 _ w hc hv hb)
    have HST := Lib.hid (fun k h => prn_step L k h)
    have HPT := Lib.hid (fun k => Nat.le_trans (prn_take L k) hpl)
    have HFM := Lib.hid (written_of hc hb)
    clear hv hb hc hp hval
    go_enter Tryz.func103, Tryz.ntmps103
    go_wp2_with fail
    refine HCK.out.mono ?_
    rintro e' w1 ⟨rfl, h1⟩
    have B1 := Lib.hid h1
    have hs1 := h1.size
    clear h1
    go_wp2
    go_loopw [12] (fun iv wr => ∃ k : Nat, k ≤ L.length ∧ iv = .int .i64 k ∧ IsB w1.heap.size w1.heap.size (Lib.byteCells (prn (L.take k))) wr ∧ Below w1.heap.size w1 wr ∧ w1.heap.size < wr.heap.size) (fun iv _ => L.length - (intOf iv).toNat)
    case atStart => exact ⟨0, Nat.zero_le _, rfl, isB_newM w1 _ (Nat.le_refl _), below_alloc _ _, by simp⟩
    case round =>
      obtain ⟨k, hk, rfl, hI, hB, hN⟩ := hrel
      obtain ⟨wk, rfl⟩ : ∃ x, x = wr := ⟨_, rfl⟩
      have HI := Lib.hid hI
      have HB := Lib.hid hB
      by_cases hlt : k < L.length
      · obtain ⟨b, off, rfl, hbb, c1, c2, c3, c4⟩ := HV.out.elem hlt
        have hB2 := below_then B1.out hB
        have d1 := (hB2.cell (p := ⟨b, off + k * 4, none⟩) hbb).trans c1
        have d2 := (hB2.cell (p := ⟨b, off + k * 4 + 1, none⟩) hbb).trans c2
        have d3 := (hB2.cell (p := ⟨b, off + k * 4 + 2, none⟩) hbb).trans c3
        have d4 := (hB2.cell (p := ⟨b, off + k * 4 + 3, none⟩) hbb).trans c4
        have hst := HST.out k hlt
        have hp1 := HPT.out (k + 1)
        rw [hst, List.length_append] at hp1
        have HF := Lib.hid (HFM.out k hlt)
        obtain ⟨x, hx⟩ : ∃ x, L[k] = x := ⟨_, rfl⟩
        rw [hx] at d1 d2 d3 d4 hst HF hp1
        obtain ⟨S, hS⟩ : ∃ S, prn (L.take k) = S := ⟨_, rfl⟩
        rw [hS] at hst hp1 HI
        obtain ⟨t, ht⟩ : ∃ t, form x = t := ⟨_, rfl⟩
        rw [ht] at hst hp1 HF
        have hbl : (Lib.byteCells S).length + (baL t).size ≤ 140737488355328 := by rw [Lib.byteCells_length, baL_size]; omega
        have HST2 := Lib.hid (And.intro hst hbl)
        have i0 : (0 : Int) ≤ (k : Int) := by omega
        have i1 : (k : Int) < (L.length : Int) := by omega
        clear c1 c2 c3 c4 hst hx hS ht hp1 hbb hB hI hB2 hbl
        go_wp2_with fail
        refine (HF.out _).mono ?_
        rintro e' w2 ⟨rfl, h2⟩
        have hA := below_alloc wk (.cells #[intV x.k, sV x.n, sV x.v, intV x.o] 52)
        have hI2 := isB_grownM (isB_grownM HI.out hA) h2
        have hB2 := HB.out.trans ((hA.mono (Nat.le_of_lt hN)).trans (h2.mono (by simp; omega)))
        have hn2 := Nat.le_trans hA.size h2.size
        have HI2 := Lib.hid (And.intro hI2 hB2)
        clear h2 d1 d2 d3 d4 hA hI2 hB2
        go_wp2_with fail
        refine (writeString_any w1.heap.size w1.heap.size _ _ _ HI2.out.1 HST2.out.2 (by omega)).mono ?_
        rintro e' w3 ⟨rfl, hu3, hb3, _⟩
        have hn3 := hb3.size
        have HU := Lib.hid (And.intro hu3 (HI2.out.2.trans hb3))
        clear hu3 hb3
        go_wp2
        go_roundw
        case rel => exact ⟨k + 1, by omega, by go_num, .inr (by rw [HST2.out.1, ← bytes_more]; exact HU.out.1), HU.out.2, by omega⟩
        case measure => simp [intOf]; omega
      · obtain rfl : k = L.length := by omega
        rw [List.take_length] at HI
        clear hB hI
        go_wp2_with fail
        refine (Tryz.Builder_String_any w1.heap.size w1.heap.size _ _ HI.out (Nat.le_of_lt hN)).mono ?_
        rintro e' w2 ⟨rfl, hb2⟩
        have HB2 := Lib.hid (below_then B1.out (HB.out.trans hb2))
        clear hb2
        go_wp2
        go_ret2
        exact ⟨rfl, HB2.out⟩
  · have hp : printR L = ([], 1) := by unfold printR; rw [if_neg hc]
    rw [hp] at hr
    cases hr
    obtain ⟨f, hf⟩ : ∃ f, chkR L = f := ⟨_, rfl⟩
    have hf1 : (f != 0) = true := by rw [← hf]; simpa using hc
    have HCK := Lib.hid (check_any L f _ w hf hv hb)
    clear hv hb hc hf hp
    go_enter Tryz.func103, Tryz.ntmps103
    go_wp2_with fail
    refine HCK.out.mono ?_
    rintro e' w1 ⟨rfl, h1⟩
    have B1 := Lib.hid h1
    clear h1
    go_wp2
    go_ret2
    exact ⟨rfl, B1.out⟩
set_option maxHeartbeats 4000000 in
theorem strip_any (s t : Bs) (e : Int) (hs : s.length ≤ maxLen) (w : World) [T w] (hr : stripR s = (t, e)) :
    Calls Tryz.prog 35 #[sV s] w fun en w' => en = .returned (.tuple #[sV t, intV e]) ∧ Below w.heap.size w w' := by
  obtain ⟨r, hsc⟩ : ∃ r, scanR s = r := ⟨_, rfl⟩
  obtain ⟨L, f⟩ := r
  have hte : t = strp L ∧ f = e := by
    unfold stripR at hr
    rw [hsc] at hr
    cases hr
    exact ⟨rfl, rfl⟩
  obtain ⟨ht, rfl⟩ := hte
  obtain ⟨hl, hsl⟩ := scan_len hsc
  have hse : f ≠ 0 → t = [] := fun h => by
    have := scan_err s (by rw [hsc]; exact h)
    rw [hsc] at this
    have hL : L = [] := this
    rw [ht, hL]; rfl
  have HSC := Lib.hid (scan_any s hs w)
  rw [hsc] at HSC
  have HT := Lib.hid ht
  have HST := Lib.hid (fun k h => strp_step L k h)
  have HPT := Lib.hid (fun k => Nat.le_trans (strp_take L k) hsl)
  clear hr hsc ht hs
  by_cases hf0 : f = 0
  · have q0 : (f != 0) = false := by simp [hf0]
    subst hf0
    clear hse
    go_enter Tryz.func35, Tryz.ntmps35
    go_wp2_with fail
    refine HSC.out.mono ?_
    rintro e' w1 ⟨v, rfl, hv, h1⟩
    have B1 := Lib.hid h1
    have HV := Lib.hid hv
    obtain ⟨a, cap, rfl⟩ := hv.slice
    clear h1 hv
    go_wp2
    go_loopw [19] (fun iv wr => ∃ k : Nat, k ≤ L.length ∧ iv = .int .i64 k ∧ IsB w1.heap.size w1.heap.size (Lib.byteCells (strp (L.take k))) wr ∧ Below w1.heap.size w1 wr ∧ w1.heap.size < wr.heap.size) (fun iv _ => L.length - (intOf iv).toNat)
    case atStart => exact ⟨0, Nat.zero_le _, rfl, isB_newM w1 _ (Nat.le_refl _), below_alloc _ _, by simp⟩
    case round =>
      obtain ⟨k, hk, rfl, hI, hB, hN⟩ := hrel
      obtain ⟨wk, rfl⟩ : ∃ x, x = wr := ⟨_, rfl⟩
      have HI := Lib.hid hI
      have HB := Lib.hid hB
      by_cases hlt : k < L.length
      · obtain ⟨b, off, rfl, hbb, c1, c2, c3, c4⟩ := HV.out.elem hlt
        have d1 := (hB.cell (p := ⟨b, off + k * 4, none⟩) hbb).trans c1
        have d2 := (hB.cell (p := ⟨b, off + k * 4 + 1, none⟩) hbb).trans c2
        have d3 := (hB.cell (p := ⟨b, off + k * 4 + 2, none⟩) hbb).trans c3
        have d4 := (hB.cell (p := ⟨b, off + k * 4 + 3, none⟩) hbb).trans c4
        have hst := HST.out k hlt
        have hp1 := HPT.out (k + 1)
        rw [hst, List.length_append] at hp1
        obtain ⟨x, hx⟩ : ∃ x, L[k] = x := ⟨_, rfl⟩
        rw [hx] at d1 d2 d3 d4 hst hp1
        obtain ⟨S, hS⟩ : ∃ S, strp (L.take k) = S := ⟨_, rfl⟩
        rw [hS] at hst hp1 HI
        obtain ⟨kk, hkk⟩ : ∃ y, x.k = y := ⟨_, rfl⟩
        rw [hkk] at d1 hst hp1
        have i0 : (0 : Int) ≤ (k : Int) := by omega
        have i1 : (k : Int) < (L.length : Int) := by omega
        obtain ⟨wB, hwB⟩ : ∃ y, wk.alloc (.cells #[intV kk, sV x.n, sV x.v, intV x.o] 52) = y := ⟨_, rfl⟩
        have hA : Below wk.heap.size wk wB := by rw [← hwB]; exact below_alloc _ _
        have HIB := Lib.hid (And.intro (isB_grownM HI.out hA) (HB.out.trans (hA.mono (Nat.le_of_lt hN))))
        have hnB := hA.size
        have HWB := Lib.hid hwB
        by_cases h1 : kk = 1
        · rw [if_pos h1] at hst hp1
          have q1 : (kk == 1) = true := by simp [h1]
          have hbl : (Lib.byteCells S).length + (baL x.v).size ≤ 140737488355328 := by rw [Lib.byteCells_length, baL_size]; omega
          have HST2 := Lib.hid (And.intro hst hbl)
          clear c1 c2 c3 c4 hst hx hS hkk hp1 hbb hB hI hwB hA hbl h1
          go_wp2_with fail
          rw [HWB.out]
          refine (writeString_any w1.heap.size w1.heap.size _ _ _ HIB.out.1 HST2.out.2 (by omega)).mono ?_
          rintro e' w3 ⟨rfl, hu3, hb3, _⟩
          have hn3 := hb3.size
          have HU := Lib.hid (And.intro hu3 (HIB.out.2.trans hb3))
          clear hu3 hb3
          go_wp2
          go_roundw
          case rel => exact ⟨k + 1, by omega, by go_num, .inr (by rw [HST2.out.1, ← bytes_more]; exact HU.out.1), HU.out.2, by omega⟩
          case measure => simp [intOf]; omega
        · rw [if_neg h1, List.append_nil] at hst
          have q1 : (kk == 1) = false := by simpa using h1
          have HST2 := Lib.hid hst
          clear c1 c2 c3 c4 hst hx hS hkk hp1 hbb hB hI hwB hA h1
          go_wp2
          rw [HWB.out]
          go_roundw
          case rel => exact ⟨k + 1, by omega, by go_num, by rw [HST2.out]; exact HIB.out.1, HIB.out.2, by omega⟩
          case measure => simp [intOf]; omega
      · obtain rfl : k = L.length := by omega
        rw [List.take_length] at HI
        clear hB hI
        go_wp2_with fail
        refine (Tryz.Builder_String_any w1.heap.size w1.heap.size _ _ HI.out (Nat.le_of_lt hN)).mono ?_
        rintro e' w2 ⟨rfl, hb2⟩
        have HB2 := Lib.hid (below_then B1.out (HB.out.trans hb2))
        clear hb2
        go_wp2
        go_ret2
        exact ⟨by rw [HT.out]; rfl, HB2.out⟩
  · have q0 : (f != 0) = true := by simpa using hf0
    have ht := hse hf0
    subst ht
    clear hf0 hse
    go_enter Tryz.func35, Tryz.ntmps35
    go_wp2_with fail
    refine HSC.out.mono ?_
    rintro e' w1 ⟨v, rfl, hv, h1⟩
    have B1 := Lib.hid h1
    obtain ⟨a, cap, rfl⟩ := hv.slice
    clear h1 hv
    go_wp2
    go_ret2
    exact ⟨rfl, B1.out⟩
end Go.Proofs.YtmfcepfagbkceaaGreatDoor
