/- Stage 10 (transcript): MkRefK, put together by merge10.py. -/
import Derived.Test.YtmfcepfagbkceaaGreatDoorRrd0
import Derived.Test.YtmfcepfagbkceaaGreatDoorRe
import Derived.RangeFuncBox
import Derived.Deep.Cut
import Derived.Deep.RegionHeld3
namespace Go.Proofs.YtmfcepfagbkceaaGreatDoor
set_option linter.unusedSimpArgs false
set_option linter.unusedVariables false
set_option maxRecDepth 100000
open Go.RowKit Go.Deep
def PrevK (L : List Lx) (k : Nat) (p : Bool) : Prop := (k = 0 ∧ p = false) ∨ ∃ m, ∃ h : m < L.length, k = m + 1 ∧ p = decide (L[m].k = 1)
theorem ck_stopM {p : Bool} {o : Nat} {x : Lx} {M : List Lx} {e c : Int} (h : chkF p o (x :: M) = e) (hc : errX p o x = c) (h0 : c ≠ 0) : c = e := by
  rw [show chkF p o (x :: M) = if errX p o x ≠ 0 then errX p o x else chkF (decide (x.k = 1)) (o + (form x).length) M from rfl, hc, if_pos h0] at h
  exact h
theorem ck_go {p : Bool} {o : Nat} {x : Lx} {M : List Lx} {e : Int} (h : chkF p o (x :: M) = e) (hc : errX p o x = 0) : chkF (decide (x.k = 1)) (o + (form x).length) M = e := by
  rw [show chkF p o (x :: M) = if errX p o x ≠ 0 then errX p o x else chkF (decide (x.k = 1)) (o + (form x).length) M from rfl, hc, if_neg (fun h => h rfl)] at h
  exact h
theorem form_lenM (x : Lx) (h : x.n.length + x.v.length ≤ 65536) : (form x).length ≤ 65541 := by
  have hb : (bodyL x.n x.v).length ≤ x.n.length + x.v.length + 1 := by
    unfold bodyL
    split
    · omega
    · simp; omega
  unfold form formF
  split
  · simp only [List.length_cons, List.length_append, List.length_nil]; omega
  · split
    · simp only [List.length_cons, List.length_append, List.length_nil]; omega
    · split
      · simp only [List.length_cons, List.length_append, List.length_nil]; omega
      · omega
theorem errX_ways (p : Bool) (o : Nat) (x : Lx) :
    ((x.k < 1 ∨ 4 < x.k) ∧ errX p o x = 8) ∨
    (x.k = 1 ∧ ((x.n ≠ [] ∧ errX p o x = 12) ∨ (x.n = [] ∧ ((x.v = [] ∧ errX p o x = 5) ∨ (x.v ≠ [] ∧ ((chk x.v ≠ 0 ∧ errX p o x = 11) ∨ (chk x.v = 0 ∧ ((p = true ∧ errX p o x = 10) ∨ (p = false ∧ ((x.o ≠ o ∧ errX p o x = 9) ∨ (x.o = o ∧ errX p o x = 0)))))))))))  ∨
    ((x.k = 2 ∨ x.k = 3 ∨ x.k = 4) ∧ ((isTag x.n = false ∧ errX p o x = 12) ∨ (isTag x.n = true ∧ ((decide (x.k = 4) ≠ emptyT x.n ∧ errX p o x = 12) ∨ (decide (x.k = 4) = emptyT x.n ∧
      ((x.k = 3 ∧ ((x.v ≠ [] ∧ errX p o x = 3) ∨ (x.v = [] ∧ ((x.o ≠ o ∧ errX p o x = 9) ∨ (x.o = o ∧ errX p o x = 0))))) ∨
       (x.k ≠ 3 ∧ ((rightB x.n x.v = false ∧ errX p o x = 3) ∨ (rightB x.n x.v = true ∧ ((x.o ≠ o ∧ errX p o x = 9) ∨ (x.o = o ∧ errX p o x = 0))))))))))) := by
  by_cases h0 : x.k < 1 ∨ 4 < x.k
  · exact .inl ⟨h0, by unfold errX; rw [if_pos h0]⟩
  · right
    by_cases h1 : x.k = 1
    · left
      refine ⟨h1, ?_⟩
      unfold errX
      rw [if_neg h0, if_pos h1]
      by_cases hn : x.n = []
      · refine .inr ⟨hn, ?_⟩
        by_cases hv : x.v = []
        · exact .inl ⟨hv, by simp [hn, hv]⟩
        · refine .inr ⟨hv, ?_⟩
          by_cases hc : chk x.v = 0
          · refine .inr ⟨hc, ?_⟩
            cases p
            · by_cases ho : x.o = o
              · exact .inr ⟨rfl, .inr ⟨ho, by rw [if_neg (fun h => h hn), if_neg hv, if_neg (fun h => h hc)]; simp [ho]⟩⟩
              · exact .inr ⟨rfl, .inl ⟨ho, by rw [if_neg (fun h => h hn), if_neg hv, if_neg (fun h => h hc)]; simp [ho]⟩⟩
            · exact .inl ⟨rfl, by rw [if_neg (fun h => h hn), if_neg hv, if_neg (fun h => h hc)]; simp⟩
          · exact .inl ⟨hc, by simp [hn, hv, hc]⟩
      · exact .inl ⟨hn, by simp [hn]⟩
    · right
      refine ⟨by omega, ?_⟩
      unfold errX
      rw [if_neg h0, if_neg h1]
      cases ht : isTag x.n
      · exact .inl ⟨rfl, by simp⟩
      · refine .inr ⟨rfl, ?_⟩
        by_cases he : decide (x.k = 4) = emptyT x.n
        · refine .inr ⟨he, ?_⟩
          by_cases h3 : x.k = 3
          · left
            refine ⟨h3, ?_⟩
            by_cases hv : x.v = []
            · by_cases ho : x.o = o
              · exact .inr ⟨hv, .inr ⟨ho, by rw [if_neg (by rw [he]; simp), if_pos h3]; simp [hv, ho]⟩⟩
              · exact .inr ⟨hv, .inl ⟨ho, by rw [if_neg (by rw [he]; simp), if_pos h3]; simp [hv, ho]⟩⟩
            · exact .inl ⟨hv, by rw [if_neg (by rw [he]; simp), if_pos h3]; simp [hv]⟩
          · right
            refine ⟨h3, ?_⟩
            cases hr : rightB x.n x.v
            · exact .inl ⟨rfl, by rw [if_neg (by rw [he]; simp), if_neg h3]; simp⟩
            · by_cases ho : x.o = o
              · exact .inr ⟨rfl, .inr ⟨ho, by rw [if_neg (by rw [he]; simp), if_neg h3]; simp [ho]⟩⟩
              · exact .inr ⟨rfl, .inl ⟨ho, by rw [if_neg (by rw [he]; simp), if_neg h3]; simp [ho]⟩⟩
        · exact .inl ⟨he, by rw [if_pos (Or.inr he)]⟩
set_option maxHeartbeats 8000000 in
theorem refChk_any : RefChk := by
  intro L e v w hr hv hb
  have HV := Lib.hid hv
  obtain ⟨a, cap, rfl⟩ := hv.slice
  have hl := hb.1
  have HR := Lib.hid (show chkF false 0 L = e from hr)
  have HLB := Lib.hid (fun k (h : k < L.length) => hb.2 L[k] (List.getElem_mem h))
  clear hr hv hb
  go_enter Tryz.func72, Tryz.ntmps72
  go_wp2
  go_loopw [3, 4] (fun ov iv wr => ∃ (k o : Nat) (p : Bool), k ≤ L.length ∧ iv = .int .i64 k ∧ ov = .int .i64 o ∧ o ≤ 65541 * k ∧ Hid (PrevK L k p) ∧ Hid (chkF p o (L.drop k) = e) ∧ Below w.heap.size w wr) (fun _ iv _ => L.length - (intOf iv).toNat)
  case atStart => exact ⟨0, 0, false, Nat.zero_le _, rfl, rfl, by omega, Lib.hid (.inl ⟨rfl, rfl⟩), HR, Below.refl _ _⟩
  case round =>
    obtain ⟨k, o, p, hk, rfl, rfl, hok, HP, HE, hB⟩ := hrel
    obtain ⟨wk, rfl⟩ : ∃ x, x = wr := ⟨_, rfl⟩
    have HB := Lib.hid hB
    by_cases hlt : k < L.length
    · obtain ⟨b, off, rfl, hbb, c1, c2, c3, c4⟩ := HV.out.elem hlt
      have d1 := (hB.cell (p := ⟨b, off + k * 4, none⟩) hbb).trans c1
      have d2 := (hB.cell (p := ⟨b, off + k * 4 + 1, none⟩) hbb).trans c2
      have d3 := (hB.cell (p := ⟨b, off + k * 4 + 2, none⟩) hbb).trans c3
      have d4 := (hB.cell (p := ⟨b, off + k * 4 + 3, none⟩) hbb).trans c4
      have hdr : L.drop k = L[k] :: L.drop (k + 1) := List.drop_eq_getElem_cons hlt
      have HE := Lib.hid (show chkF p o (L[k] :: L.drop (k + 1)) = e by have := HE.out; rwa [hdr] at this)
      obtain ⟨_, _, m1, m2, m3⟩ := HLB.out k hlt
      have HNX := Lib.hid (show ∀ q, q = decide (L[k].k = 1) → PrevK L (k + 1) q from fun q hq => .inr ⟨k, hlt, rfl, hq⟩)
      obtain ⟨x, hx⟩ : ∃ x, L[k] = x := ⟨_, rfl⟩
      rw [hx] at d1 d2 d3 d4 HE m1 m2 m3 HNX
      obtain ⟨wB, hwB⟩ : ∃ y, wk.alloc (.cells #[intV x.k, sV x.n, sV x.v, intV x.o] 52) = y := ⟨_, rfl⟩
      have hBB : Below wk.heap.size wk wB := by rw [← hwB]; exact below_alloc _ _
      have hbx : wB.heap[wk.heap.size]? = some (.cells #[intV x.k, sV x.n, sV x.v, intV x.o] 52 (0, 0)) := by rw [← hwB]; exact World.alloc_heap_new _ _
      have hsB : wB.heap.size = wk.heap.size + 1 := by rw [← hwB]; simp
      have HBB := Lib.hid (below_then hB hBB)
      have HBX := Lib.hid hbx
      have HW := Lib.hid hwB
      have i0 : (0 : Int) ≤ (k : Int) := by omega
      have i1 : (k : Int) < (L.length : Int) := by omega
      have ways := errX_ways p o x
      have hfl := form_lenM x m3
      have HFM := Lib.hid (fun W => form_any x.k x.n x.v x.o (form x) rfl (by omega) W)
      have HS := Lib.hid (show ∀ c : Int, errX p o x = c → c ≠ 0 → c = e from fun c h h0 => ck_stopM HE.out h h0)
      have HG := Lib.hid (show errX p o x = 0 → chkF (decide (x.k = 1)) (o + (form x).length) (L.drop (k + 1)) = e from fun h => ck_go HE.out h)
      obtain ⟨E, hE⟩ : ∃ y, errX p o x = y := ⟨_, rfl⟩
      obtain ⟨fx, hfx⟩ : ∃ y, form x = y := ⟨_, rfl⟩
      rw [hfx] at HFM hfl HG
      rw [hE] at HS HG ways
      obtain ⟨fl, hfle⟩ : ∃ y, fx.length = y := ⟨_, rfl⟩
      rw [hfle] at hfl HG
      have hfz : (baL fx).size = fl := by rw [baL_size, hfle]
      have hw : IntKind.i64.wrap ((o : Int) + (fl : Int)) = ((o + fl : Nat) : Int) := by rw [show (o : Int) + (fl : Int) = ((o + fl : Nat) : Int) by omega]; exact IntWalk.i64_in _ (by omega)
      have hko : o + fl ≤ 65541 * (k + 1) := by omega
      obtain ⟨xk, hxk⟩ : ∃ y, x.k = y := ⟨_, rfl⟩
      obtain ⟨xn, hxn⟩ : ∃ y, x.n = y := ⟨_, rfl⟩
      obtain ⟨xv, hxv⟩ : ∃ y, x.v = y := ⟨_, rfl⟩
      obtain ⟨xo, hxo⟩ : ∃ y, x.o = y := ⟨_, rfl⟩
      rw [hxk] at ways HFM HNX HBX HW HG d1
      rw [hxn] at ways HFM HBX HW d2
      rw [hxv] at ways HFM HBX HW d3 m2
      rw [hxo] at ways HFM HBX HW d4
      obtain ⟨l0, l1, l2, l3⟩ := heap4P HBX.out
      have hbw : wk.heap.size < wB.heap.size := by omega
      have hns := baL_toList xn
      have hvs := baL_toList xv
      clear c1 c2 c3 c4 hdr hx hwB hBB hbx hB hE hfx hfle hxk hxn hxv hxo m1 m3 hfl
      rcases ways with ⟨hbad, hE8⟩ | ⟨h1, ways⟩ | ⟨h24, ways⟩
      · have HZ := Lib.hid (HS.out _ hE8 (by decide))
        rcases hbad with hbad | hbad
        · have q1 : decide (xk < 1) = true := decide_eq_true hbad
          clear hbad hE8 HNX
          go_upto_region 6 with fail
          rw [HW.out]
          go_wp2
          go_ret
          exact ⟨ret_intM HZ.out, HBB.out⟩
        · have q1 : decide (xk < 1) = false := decide_eq_false (by omega)
          have q2 : decide (4 < xk) = true := decide_eq_true hbad
          clear hbad hE8 HNX
          go_upto_region 6 with fail
          rw [HW.out]
          go_wp2
          go_ret
          exact ⟨ret_intM HZ.out, HBB.out⟩
      · have q1 : decide (xk < 1) = false := decide_eq_false (by omega)
        have q2 : decide (4 < xk) = false := decide_eq_false (by omega)
        have q3 : (xk == 1) = true := by simp [h1]
        have q3' : (xk != 1) = false := by simp [h1]
        have q4 : (xk == 3) = false := by rw [beq_eq_false_iff_ne]; omega
        have q4' : (xk != 3) = true := by simp; omega
        have q5 : (xk == 4) = false := by rw [beq_eq_false_iff_ne]; omega
        clear h1
        rcases ways with ⟨hn, hE8⟩ | ⟨hn, ways⟩
        · have hne : xn.isEmpty = false := by cases xn with | nil => exact absurd rfl hn | cons c t => rfl
          have HZ := Lib.hid (HS.out _ hE8 (by decide))
          clear hn hE8 HNX
          go_upto_region 6 with fail
          rw [HW.out]
          go_wp2
          go_ret
          exact ⟨ret_intM HZ.out, HBB.out⟩
        · have hne : xn.isEmpty = true := by rw [hn]; rfl
          clear hn
          rcases ways with ⟨hv, hE8⟩ | ⟨hv, ways⟩
          · have hve : xv.isEmpty = true := by rw [hv]; rfl
            have HZ := Lib.hid (HS.out _ hE8 (by decide))
            clear hv hE8 HNX
            go_upto_region 6 with fail
            rw [HW.out]
            go_wp2_with fail
            go_quiet (fail)
            go_wp2
            go_ret
            exact ⟨ret_intM HZ.out, HBB.out.trans (below_drewN_n _ _ _)⟩
          · obtain ⟨r, hr1⟩ : ∃ r, chk xv = r := ⟨_, rfl⟩
            rw [hr1] at ways
            have HCK := Lib.hid (fun W => R01.refCheck_at (baL xv) r hr1 (by rw [baL_size]; exact m2) W)
            have hve : xv.isEmpty = false := by cases xv with | nil => exact absurd rfl hv | cons c t => rfl
            clear hv
            rcases ways with ⟨hc, hE8⟩ | ⟨hc, ways⟩
            · have q9 : (r != 0) = true := by simpa using hc
              have q9' : (r == 0) = false := by simpa using hc
              have HZ := Lib.hid (HS.out _ hE8 (by decide))
              clear hc hE8 HNX hr1
              go_upto_region 6 with fail
              rw [HW.out]
              go_wp2_with fail
              go_quiet (fail)
              go_wp2_with fail
              refine (HCK.out _).mono ?_
              rintro e' w2 ⟨rfl, h2⟩
              have hb2 := (h2.block wk.heap.size (by simpa using hbw)).trans HBX.out
              have B2 := Lib.hid (below_then (HBB.out.trans (below_drewN_n _ _ _)) h2)
              clear h2 l0 l1 l2 l3
              obtain ⟨l0, l1, l2, l3⟩ := heap4P hb2
              go_wp2
              go_ret
              exact ⟨ret_intM HZ.out, B2.out⟩
            · have q9 : (r != 0) = false := by simp [hc]
              have q9' : (r == 0) = true := by simp [hc]
              clear hc hr1
              rcases ways with ⟨hp, hE8⟩ | ⟨hp, ways⟩
              · rcases HP.out with ⟨_, h0⟩ | ⟨m, hm, hkm, hpm⟩
                · rw [hp] at h0; cases h0
                · have HZ := Lib.hid (HS.out _ hE8 (by decide))
                  have hm1 : L[m].k = 1 := by rw [hp] at hpm; simpa using hpm.symm
                  have q6 : decide ((0 : Int) < (k : Int)) = true := decide_eq_true (by omega)
                  have hk1 : 0 < k := by omega
                  have hk2 : decide (0 < k) = true := decide_eq_true hk1
                  have hwm : IntKind.i64.wrap ((k : Int) - 1) = (m : Int) := by rw [show (k : Int) - 1 = (m : Int) by omega]; exact IntWalk.i64_in _ (by omega)
                  have j0 : (0 : Int) ≤ (m : Int) := by omega
                  have j1 : (m : Int) < (L.length : Int) := by omega
                  obtain ⟨b', off', he', hbb', c1, _, _, _⟩ := HV.out.elem hm
                  cases he'
                  have dm := (HBB.out.cell (p := ⟨b, off + m * 4, none⟩) hbb).trans c1
                  have hbk : b < wB.heap.size := Nat.lt_of_lt_of_le hbb HBB.out.size
                  obtain ⟨y, hy⟩ : ∃ y, L[m].k = y := ⟨_, rfl⟩
                  rw [hy] at dm hm1
                  have q8 : (y == 1) = true := by simp [hm1]
                  clear c1 hm1 hy hpm hp hkm hbb'
                  go_upto_region 6 with fail
                  rw [HW.out]
                  go_wp2_with fail
                  go_quiet (fail)
                  go_wp2_with fail
                  refine (HCK.out _).mono ?_
                  rintro e' w2 ⟨rfl, h2⟩
                  have hb2 := (h2.block wk.heap.size (by simpa using hbw)).trans HBX.out
                  have B2 := Lib.hid (below_then (HBB.out.trans (below_drewN_n _ _ _)) h2)
                  replace dm := (h2.cell (p := ⟨b, off + m * 4, none⟩) (by simpa using hbk)).trans dm
                  clear h2 l0 l1 l2 l3
                  obtain ⟨l0, l1, l2, l3⟩ := heap4P hb2
                  go_wp2
                  go_ret
                  exact ⟨ret_intM HZ.out, B2.out⟩
              · rcases ways with ⟨ho, hE8⟩ | ⟨ho, hE8⟩
                · have HZ := Lib.hid (HS.out _ hE8 (by decide))
                  have q7 : (xo != (o : Int)) = true := by simpa using ho
                  have q7' : (xo == (o : Int)) = false := by simpa using ho
                  clear ho hE8 HNX
                  rcases HP.out with ⟨hk0, _⟩ | ⟨m, hm, hkm, hpm⟩
                  · have q6 : decide ((0 : Int) < (k : Int)) = false := decide_eq_false (by omega)
                    have hk1 : ¬ 0 < k := by omega
                    have hk2 : decide (0 < k) = false := decide_eq_false hk1
                    clear hk0 hp
                    go_upto_region 6 with fail
                    rw [HW.out]
                    go_wp2_with fail
                    go_quiet (fail)
                    go_wp2_with fail
                    refine (HCK.out _).mono ?_
                    rintro e' w2 ⟨rfl, h2⟩
                    have hb2 := (h2.block wk.heap.size (by simpa using hbw)).trans HBX.out
                    have B2 := Lib.hid (below_then (HBB.out.trans (below_drewN_n _ _ _)) h2)
                    clear h2 l0 l1 l2 l3
                    obtain ⟨l0, l1, l2, l3⟩ := heap4P hb2
                    go_wp2
                    go_ret
                    exact ⟨ret_intM HZ.out, B2.out⟩
                  · have hm1 : L[m].k ≠ 1 := by rw [hp] at hpm; simpa using hpm.symm
                    have q6 : decide ((0 : Int) < (k : Int)) = true := decide_eq_true (by omega)
                    have hk1 : 0 < k := by omega
                    have hk2 : decide (0 < k) = true := decide_eq_true hk1
                    have hwm : IntKind.i64.wrap ((k : Int) - 1) = (m : Int) := by rw [show (k : Int) - 1 = (m : Int) by omega]; exact IntWalk.i64_in _ (by omega)
                    have j0 : (0 : Int) ≤ (m : Int) := by omega
                    have j1 : (m : Int) < (L.length : Int) := by omega
                    obtain ⟨b', off', he', hbb', c1, _, _, _⟩ := HV.out.elem hm
                    cases he'
                    have dm := (HBB.out.cell (p := ⟨b, off + m * 4, none⟩) hbb).trans c1
                    have hbk : b < wB.heap.size := Nat.lt_of_lt_of_le hbb HBB.out.size
                    obtain ⟨y, hy⟩ : ∃ y, L[m].k = y := ⟨_, rfl⟩
                    rw [hy] at dm hm1
                    have q8 : (y == 1) = false := by simpa using hm1
                    clear c1 hm1 hy hpm hp hkm hbb'
                    go_upto_region 6 with fail
                    rw [HW.out]
                    go_wp2_with fail
                    go_quiet (fail)
                    go_wp2_with fail
                    refine (HCK.out _).mono ?_
                    rintro e' w2 ⟨rfl, h2⟩
                    have hb2 := (h2.block wk.heap.size (by simpa using hbw)).trans HBX.out
                    have B2 := Lib.hid (below_then (HBB.out.trans (below_drewN_n _ _ _)) h2)
                    replace dm := (h2.cell (p := ⟨b, off + m * 4, none⟩) (by simpa using hbk)).trans dm
                    clear h2 l0 l1 l2 l3
                    obtain ⟨l0, l1, l2, l3⟩ := heap4P hb2
                    go_wp2
                    go_ret
                    exact ⟨ret_intM HZ.out, B2.out⟩
                · have HC := Lib.hid (HG.out hE8)
                  have q7 : (xo != (o : Int)) = false := by simp [ho]
                  have q7' : (xo == (o : Int)) = true := by simp [ho]
                  have HP2 := Lib.hid (HNX.out (decide (xk = 1)) rfl)
                  clear ho hE8 HNX
                  rcases HP.out with ⟨hk0, _⟩ | ⟨m, hm, hkm, hpm⟩
                  · have q6 : decide ((0 : Int) < (k : Int)) = false := decide_eq_false (by omega)
                    have hk1 : ¬ 0 < k := by omega
                    have hk2 : decide (0 < k) = false := decide_eq_false hk1
                    clear hk0 hp
                    go_upto_region 6 with fail
                    rw [HW.out]
                    go_wp2_with fail
                    go_quiet (fail)
                    go_wp2_with fail
                    refine (HCK.out _).mono ?_
                    rintro e' w2 ⟨rfl, h2⟩
                    have hb2 := (h2.block wk.heap.size (by simpa using hbw)).trans HBX.out
                    have B2 := Lib.hid (below_then (HBB.out.trans (below_drewN_n _ _ _)) h2)
                    clear h2 l0 l1 l2 l3
                    obtain ⟨l0, l1, l2, l3⟩ := heap4P hb2
                    go_wp2_with fail
                    refine (HFM.out _).mono ?_
                    rintro e' w4 ⟨rfl, h4⟩
                    have B4 := Lib.hid (below_then B2.out h4)
                    clear h4
                    go_wp2
                    go_roundw
                    case rel => exact ⟨k + 1, o + fl, decide (xk = 1), by omega, by go_num, by go_num, hko, HP2, HC, B4.out⟩
                    case measure => simp [intOf]; omega
                  · have hm1 : L[m].k ≠ 1 := by rw [hp] at hpm; simpa using hpm.symm
                    have q6 : decide ((0 : Int) < (k : Int)) = true := decide_eq_true (by omega)
                    have hk1 : 0 < k := by omega
                    have hk2 : decide (0 < k) = true := decide_eq_true hk1
                    have hwm : IntKind.i64.wrap ((k : Int) - 1) = (m : Int) := by rw [show (k : Int) - 1 = (m : Int) by omega]; exact IntWalk.i64_in _ (by omega)
                    have j0 : (0 : Int) ≤ (m : Int) := by omega
                    have j1 : (m : Int) < (L.length : Int) := by omega
                    obtain ⟨b', off', he', hbb', c1, _, _, _⟩ := HV.out.elem hm
                    cases he'
                    have dm := (HBB.out.cell (p := ⟨b, off + m * 4, none⟩) hbb).trans c1
                    have hbk : b < wB.heap.size := Nat.lt_of_lt_of_le hbb HBB.out.size
                    obtain ⟨y, hy⟩ : ∃ y, L[m].k = y := ⟨_, rfl⟩
                    rw [hy] at dm hm1
                    have q8 : (y == 1) = false := by simpa using hm1
                    clear c1 hm1 hy hpm hp hkm hbb'
                    go_upto_region 6 with fail
                    rw [HW.out]
                    go_wp2_with fail
                    go_quiet (fail)
                    go_wp2_with fail
                    refine (HCK.out _).mono ?_
                    rintro e' w2 ⟨rfl, h2⟩
                    have hb2 := (h2.block wk.heap.size (by simpa using hbw)).trans HBX.out
                    have B2 := Lib.hid (below_then (HBB.out.trans (below_drewN_n _ _ _)) h2)
                    replace dm := (h2.cell (p := ⟨b, off + m * 4, none⟩) (by simpa using hbk)).trans dm
                    clear h2 l0 l1 l2 l3
                    obtain ⟨l0, l1, l2, l3⟩ := heap4P hb2
                    go_wp2_with fail
                    refine (HFM.out _).mono ?_
                    rintro e' w4 ⟨rfl, h4⟩
                    have B4 := Lib.hid (below_then B2.out h4)
                    clear h4
                    go_wp2
                    go_roundw
                    case rel => exact ⟨k + 1, o + fl, decide (xk = 1), by omega, by go_num, by go_num, hko, HP2, HC, B4.out⟩
                    case measure => simp [intOf]; omega
      · have q1 : decide (xk < 1) = false := decide_eq_false (by omega)
        have q2 : decide (4 < xk) = false := decide_eq_false (by omega)
        have q3 : (xk == 1) = false := by rw [beq_eq_false_iff_ne]; omega
        have q3' : (xk != 1) = true := by simp; omega
        rcases ways with ⟨htg, hE8⟩ | ⟨htg, ways⟩
        · have HZ := Lib.hid (HS.out _ hE8 (by decide))
          have HKN := Lib.hid (fun W => known_any xn false htg W)
          have HD := Lib.hid (show wB.drew.cell? ⟨wk.heap.size, 0, none⟩ = some (intV xk) ∧ wB.drew.cell? ⟨wk.heap.size, 1, none⟩ = some (sV xn) ∧ wB.drew.cell? ⟨wk.heap.size, 2, none⟩ = some (sV xv) ∧ wB.drew.cell? ⟨wk.heap.size, 3, none⟩ = some (intV xo) from ⟨l0, l1, l2, l3⟩)
          clear hE8 HNX htg h24
          go_upto_region 6 with fail
          rw [HW.out]
          go_wp2_with fail
          clear l0 l1 l2 l3
          refine wp_region_held_drew (S := (fun w' => w'.cell? ⟨wk.heap.size, 0, none⟩ = some (intV xk) ∧ w'.cell? ⟨wk.heap.size, 1, none⟩ = some (sV xn) ∧ w'.cell? ⟨wk.heap.size, 2, none⟩ = some (sV xv) ∧ w'.cell? ⟨wk.heap.size, 3, none⟩ = some (intV xo))) (by kernel_rfl) HD.out (fun hHeld => ?_)
          refine wpAnyH_take (i := 0) (v := ?_) rfl (by kernel_rfl) (by kernel_rfl) (by kernel_rfl) (fun _ _ _ h => h) (Or.inl ⟨by rfl, ?_⟩) (by assumption) ?_
          rotate_left
          · intro w hSw
            (try dsimp only at hSw)
            first | (go_simp; done) | (go_simp; with_reducible rfl)
          simp only [Act.put, List.getElem_toArray, List.getElem_cons_zero, List.getElem_cons_succ, List.setIfInBounds_toArray, List.set_cons_zero, List.set_cons_succ]
          refine wpAnyH_take (i := 1) (v := ?_) rfl (by kernel_rfl) (by kernel_rfl) (by kernel_rfl) (fun _ _ _ h => h) (Or.inl ⟨by rfl, ?_⟩) (by assumption) ?_
          rotate_left
          · intro w hSw
            (try dsimp only at hSw)
            first | (go_simp; done) | (go_simp; with_reducible rfl)
          simp only [Act.put, List.getElem_toArray, List.getElem_cons_zero, List.getElem_cons_succ, List.setIfInBounds_toArray, List.set_cons_zero, List.set_cons_succ]
          refine wpAnyH_take (i := 2) (v := ?_) rfl (by kernel_rfl) (by kernel_rfl) (by kernel_rfl) (fun _ _ _ h => h) (Or.inl ⟨by rfl, ?_⟩) (by assumption) ?_
          rotate_left
          · intro w hSw
            (try dsimp only at hSw)
            first | (go_simp; done) | (go_simp; with_reducible rfl)
          simp only [Act.put, List.getElem_toArray, List.getElem_cons_zero, List.getElem_cons_succ, List.setIfInBounds_toArray, List.set_cons_zero, List.set_cons_succ]
          refine wpAnyH_take (i := 3) (v := ?_) rfl (by kernel_rfl) (by kernel_rfl) (by kernel_rfl) (fun _ _ _ h => h) (Or.inl ⟨by rfl, ?_⟩) (by assumption) ?_
          rotate_left
          · intro w hSw
            (try dsimp only at hSw)
            first | (go_simp; done) | (go_simp; with_reducible rfl)
          simp only [Act.put, List.getElem_toArray, List.getElem_cons_zero, List.getElem_cons_succ, List.setIfInBounds_toArray, List.set_cons_zero, List.set_cons_succ]
          refine wpAnyH_take (i := 4) (v := ?_) rfl (by kernel_rfl) (by kernel_rfl) (by kernel_rfl) (fun _ _ _ h => h) (Or.inl ⟨by rfl, ?_⟩) (by assumption) ?_
          rotate_left
          · intro w hSw
            (try dsimp only at hSw)
            first | (go_simp; done) | (go_simp; with_reducible rfl)
          simp only [Act.put, List.getElem_toArray, List.getElem_cons_zero, List.getElem_cons_succ, List.setIfInBounds_toArray, List.set_cons_zero, List.set_cons_succ]
          refine wpAnyH_take (i := 5) (v := ?_) rfl (by kernel_rfl) (by kernel_rfl) (by kernel_rfl) (fun _ _ _ h => h) (Or.inl ⟨by rfl, ?_⟩) (by assumption) ?_
          rotate_left
          · intro w hSw
            (try dsimp only at hSw)
            first | (go_simp; done) | (go_simp; with_reducible rfl)
          simp only [Act.put, List.getElem_toArray, List.getElem_cons_zero, List.getElem_cons_succ, List.setIfInBounds_toArray, List.set_cons_zero, List.set_cons_succ]
          refine wpAnyH_ready (rs := [6]) (by kernel_rfl) (by simp) ?_
          refine AllReadyH.cons rfl (fun K hK => ?_) AllReadyH.nil
          (try go_simp)
          go_at_call 96
          refine (HKN.out _).mono ?_
          rintro e' w2 ⟨rfl, h5⟩
          have HB2 := Lib.hid h5
          have HS2 := Lib.hid (And.intro ((h5.cell (p := ⟨wk.heap.size, 0, none⟩) hbw).trans HD.out.1) (And.intro ((h5.cell (p := ⟨wk.heap.size, 1, none⟩) hbw).trans HD.out.2.1) (And.intro ((h5.cell (p := ⟨wk.heap.size, 2, none⟩) hbw).trans HD.out.2.2.1) ((h5.cell (p := ⟨wk.heap.size, 3, none⟩) hbw).trans HD.out.2.2.2))))
          clear h5
          refine hK.out _ _ HS2.out (fun hHeld => ?_)
          clear hK K
          (try simp only [Act.put, List.setIfInBounds_toArray, List.set_cons_zero, List.set_cons_succ])
          refine wpAnyH_take (i := 7) (v := ?_) rfl (by kernel_rfl) (by kernel_rfl) (by kernel_rfl) (fun _ _ _ h => h) (Or.inl ⟨by rfl, ?_⟩) (by assumption) ?_
          rotate_left
          · intro w hSw
            (try dsimp only at hSw)
            first | (go_simp; done) | (go_simp; with_reducible rfl)
          simp only [Act.put, List.getElem_toArray, List.getElem_cons_zero, List.getElem_cons_succ, List.setIfInBounds_toArray, List.set_cons_zero, List.set_cons_succ]
          refine wpAnyH_take (i := 8) (v := ?_) rfl (by kernel_rfl) (by kernel_rfl) (by kernel_rfl) (fun _ _ _ h => h) (Or.inl ⟨by rfl, ?_⟩) (by assumption) ?_
          rotate_left
          · intro w hSw
            (try dsimp only at hSw)
            first | (go_simp; done) | (go_simp; with_reducible rfl)
          simp only [Act.put, List.getElem_toArray, List.getElem_cons_zero, List.getElem_cons_succ, List.setIfInBounds_toArray, List.set_cons_zero, List.set_cons_succ]
          refine wpAnyH_take (i := 9) (v := undef) rfl (by kernel_rfl) (by kernel_rfl) (by kernel_rfl) (fun _ _ _ h => h) (Or.inr ⟨by rfl, rfl⟩) (by assumption) ?_
          simp only [Act.put, List.getElem_toArray, List.getElem_cons_zero, List.getElem_cons_succ, List.setIfInBounds_toArray, List.set_cons_zero, List.set_cons_succ]
          refine wpAnyH_take (i := 10) (v := undef) rfl (by kernel_rfl) (by kernel_rfl) (by kernel_rfl) (fun _ _ _ h => h) (Or.inr ⟨by rfl, rfl⟩) (by assumption) ?_
          simp only [Act.put, List.getElem_toArray, List.getElem_cons_zero, List.getElem_cons_succ, List.setIfInBounds_toArray, List.set_cons_zero, List.set_cons_succ]
          refine wpAnyH_take (i := 11) (v := undef) rfl (by kernel_rfl) (by kernel_rfl) (by kernel_rfl) (fun _ _ _ h => h) (Or.inr ⟨by rfl, rfl⟩) (by assumption) ?_
          simp only [Act.put, List.getElem_toArray, List.getElem_cons_zero, List.getElem_cons_succ, List.setIfInBounds_toArray, List.set_cons_zero, List.set_cons_succ]
          refine wpAnyH_take (i := 12) (v := undef) rfl (by kernel_rfl) (by kernel_rfl) (by kernel_rfl) (fun _ _ _ h => h) (Or.inr ⟨by rfl, rfl⟩) (by assumption) ?_
          simp only [Act.put, List.getElem_toArray, List.getElem_cons_zero, List.getElem_cons_succ, List.setIfInBounds_toArray, List.set_cons_zero, List.set_cons_succ]
          refine wpAnyH_take (i := 13) (v := undef) rfl (by kernel_rfl) (by kernel_rfl) (by kernel_rfl) (fun _ _ _ h => h) (Or.inr ⟨by rfl, rfl⟩) (by assumption) ?_
          simp only [Act.put, List.getElem_toArray, List.getElem_cons_zero, List.getElem_cons_succ, List.setIfInBounds_toArray, List.set_cons_zero, List.set_cons_succ]
          refine wpAnyH_take (i := 14) (v := undef) rfl (by kernel_rfl) (by kernel_rfl) (by kernel_rfl) (fun _ _ _ h => h) (Or.inr ⟨by rfl, rfl⟩) (by assumption) ?_
          simp only [Act.put, List.getElem_toArray, List.getElem_cons_zero, List.getElem_cons_succ, List.setIfInBounds_toArray, List.set_cons_zero, List.set_cons_succ]
          refine wpAnyH_take (i := 15) (v := undef) rfl (by kernel_rfl) (by kernel_rfl) (by kernel_rfl) (fun _ _ _ h => h) (Or.inr ⟨by rfl, rfl⟩) (by assumption) ?_
          simp only [Act.put, List.getElem_toArray, List.getElem_cons_zero, List.getElem_cons_succ, List.setIfInBounds_toArray, List.set_cons_zero, List.set_cons_succ]
          refine wpAnyH_take (i := 16) (v := ?_) rfl (by kernel_rfl) (by kernel_rfl) (by kernel_rfl) (fun _ _ _ h => h) (Or.inl ⟨by rfl, ?_⟩) (by assumption) ?_
          rotate_left
          · intro w hSw
            (try dsimp only at hSw)
            first | (go_simp; done) | (go_simp; with_reducible rfl)
          simp only [Act.put, List.getElem_toArray, List.getElem_cons_zero, List.getElem_cons_succ, List.setIfInBounds_toArray, List.set_cons_zero, List.set_cons_succ]
          refine wpAnyH_take (i := 17) (v := ?_) rfl (by kernel_rfl) (by kernel_rfl) (by kernel_rfl) (fun _ _ _ h => h) (Or.inl ⟨by rfl, ?_⟩) (by assumption) ?_
          rotate_left
          · intro w hSw
            (try dsimp only at hSw)
            first | (go_simp; done) | (go_simp; with_reducible rfl)
          simp only [Act.put, List.getElem_toArray, List.getElem_cons_zero, List.getElem_cons_succ, List.setIfInBounds_toArray, List.set_cons_zero, List.set_cons_succ]
          refine wpAnyH_take (i := 18) (v := ?_) rfl (by kernel_rfl) (by kernel_rfl) (by kernel_rfl) (fun _ _ _ h => h) (Or.inl ⟨by rfl, ?_⟩) (by assumption) ?_
          rotate_left
          · intro w hSw
            (try dsimp only at hSw)
            first | (go_simp; done) | (go_simp; with_reducible rfl)
          simp only [Act.put, List.getElem_toArray, List.getElem_cons_zero, List.getElem_cons_succ, List.setIfInBounds_toArray, List.set_cons_zero, List.set_cons_succ]
          refine wpAnyH_done (by kernel_rfl) ?_ _
          go_wp2
          go_ret
          exact ⟨ret_intM HZ.out, (below_then (below_drew HBB.out) HB2.out)⟩
        · have HKN := Lib.hid (fun W => known_any xn true htg W)
          clear htg
          rcases ways with ⟨hem, hE8⟩ | ⟨hem, ways⟩
          · cases hb4 : decide (xk = 4)
            · have HEM := Lib.hid (fun W => empty_any xn true (by rw [hb4] at hem; cases h : emptyT xn; exact absurd h.symm hem; rfl) W)
              clear hem
              have q5 : (xk == 4) = false := by simpa using hb4
              have HZ := Lib.hid (HS.out _ hE8 (by decide))
              clear hE8 HNX h24 hb4
              have HD := Lib.hid (show wB.drew.cell? ⟨wk.heap.size, 0, none⟩ = some (intV xk) ∧ wB.drew.cell? ⟨wk.heap.size, 1, none⟩ = some (sV xn) ∧ wB.drew.cell? ⟨wk.heap.size, 2, none⟩ = some (sV xv) ∧ wB.drew.cell? ⟨wk.heap.size, 3, none⟩ = some (intV xo) from ⟨l0, l1, l2, l3⟩)
              go_upto_region 6 with fail
              rw [HW.out]
              go_wp2_with fail
              clear l0 l1 l2 l3
              go_region_held3 (fun w' => w'.cell? ⟨wk.heap.size, 0, none⟩ = some (intV xk) ∧ w'.cell? ⟨wk.heap.size, 1, none⟩ = some (sV xn) ∧ w'.cell? ⟨wk.heap.size, 2, none⟩ = some (sV xv) ∧ w'.cell? ⟨wk.heap.size, 3, none⟩ = some (intV xo))
                (first | exact HD.out | exact HS2.out)
                (first | ((try go_simp); go_at_call 96; refine (HKN.out _).mono ?_; rintro e' w2 ⟨rfl, h5⟩; have HB2 := Lib.hid h5; have HS2 := Lib.hid (And.intro ((h5.cell (p := ⟨wk.heap.size, 0, none⟩) hbw).trans HD.out.1) (And.intro ((h5.cell (p := ⟨wk.heap.size, 1, none⟩) hbw).trans HD.out.2.1) (And.intro ((h5.cell (p := ⟨wk.heap.size, 2, none⟩) hbw).trans HD.out.2.2.1) ((h5.cell (p := ⟨wk.heap.size, 3, none⟩) hbw).trans HD.out.2.2.2)))); have hbx2 := (h5.block wk.heap.size hbw).trans HBX.out; clear h5) | ((try go_simp); go_at_call 97; refine (HEM.out _).mono ?_; rintro e' w3 ⟨rfl, rfl⟩))
              go_wp2
              go_ret
              exact ⟨ret_intM HZ.out, (below_then (below_drew HBB.out) HB2.out)⟩
            · have HEM := Lib.hid (fun W => empty_any xn false (by rw [hb4] at hem; cases h : emptyT xn; rfl; exact absurd h.symm hem) W)
              clear hem
              have q5 : (xk == 4) = true := by simpa using hb4
              have HZ := Lib.hid (HS.out _ hE8 (by decide))
              clear hE8 HNX h24 hb4
              have HD := Lib.hid (show wB.drew.cell? ⟨wk.heap.size, 0, none⟩ = some (intV xk) ∧ wB.drew.cell? ⟨wk.heap.size, 1, none⟩ = some (sV xn) ∧ wB.drew.cell? ⟨wk.heap.size, 2, none⟩ = some (sV xv) ∧ wB.drew.cell? ⟨wk.heap.size, 3, none⟩ = some (intV xo) from ⟨l0, l1, l2, l3⟩)
              go_upto_region 6 with fail
              rw [HW.out]
              go_wp2_with fail
              clear l0 l1 l2 l3
              go_region_held3 (fun w' => w'.cell? ⟨wk.heap.size, 0, none⟩ = some (intV xk) ∧ w'.cell? ⟨wk.heap.size, 1, none⟩ = some (sV xn) ∧ w'.cell? ⟨wk.heap.size, 2, none⟩ = some (sV xv) ∧ w'.cell? ⟨wk.heap.size, 3, none⟩ = some (intV xo))
                (first | exact HD.out | exact HS2.out)
                (first | ((try go_simp); go_at_call 96; refine (HKN.out _).mono ?_; rintro e' w2 ⟨rfl, h5⟩; have HB2 := Lib.hid h5; have HS2 := Lib.hid (And.intro ((h5.cell (p := ⟨wk.heap.size, 0, none⟩) hbw).trans HD.out.1) (And.intro ((h5.cell (p := ⟨wk.heap.size, 1, none⟩) hbw).trans HD.out.2.1) (And.intro ((h5.cell (p := ⟨wk.heap.size, 2, none⟩) hbw).trans HD.out.2.2.1) ((h5.cell (p := ⟨wk.heap.size, 3, none⟩) hbw).trans HD.out.2.2.2)))); have hbx2 := (h5.block wk.heap.size hbw).trans HBX.out; clear h5) | ((try go_simp); go_at_call 97; refine (HEM.out _).mono ?_; rintro e' w3 ⟨rfl, rfl⟩))
              go_wp2
              go_ret
              exact ⟨ret_intM HZ.out, (below_then (below_drew HBB.out) HB2.out)⟩
          · rcases ways with ⟨h3, ways⟩ | ⟨h3, ways⟩
            · have hb4 : decide (xk = 4) = false := decide_eq_false (by omega)
              have HEM := Lib.hid (fun W => empty_any xn false (by rw [← hem, hb4]) W)
              clear hem
              rcases ways with ⟨hv, hE8⟩ | ⟨hv, ways⟩
              · have q4 : (xk == 3) = true := by simp [h3]
                have q4' : (xk != 3) = false := by simp [h3]
                have q5 : (xk == 4) = false := by simpa using hb4
                have hve : xv.isEmpty = false := by cases xv with | nil => exact absurd rfl hv | cons c t => rfl
                have HZ := Lib.hid (HS.out _ hE8 (by decide))
                clear hE8 HNX h24 h3 hv hb4
                have HD := Lib.hid (show wB.drew.cell? ⟨wk.heap.size, 0, none⟩ = some (intV xk) ∧ wB.drew.cell? ⟨wk.heap.size, 1, none⟩ = some (sV xn) ∧ wB.drew.cell? ⟨wk.heap.size, 2, none⟩ = some (sV xv) ∧ wB.drew.cell? ⟨wk.heap.size, 3, none⟩ = some (intV xo) from ⟨l0, l1, l2, l3⟩)
                go_upto_region 6 with fail
                rw [HW.out]
                go_wp2_with fail
                clear l0 l1 l2 l3
                go_region_held3 (fun w' => w'.cell? ⟨wk.heap.size, 0, none⟩ = some (intV xk) ∧ w'.cell? ⟨wk.heap.size, 1, none⟩ = some (sV xn) ∧ w'.cell? ⟨wk.heap.size, 2, none⟩ = some (sV xv) ∧ w'.cell? ⟨wk.heap.size, 3, none⟩ = some (intV xo))
                  (first | exact HD.out | exact HS2.out)
                  (first | ((try go_simp); go_at_call 96; refine (HKN.out _).mono ?_; rintro e' w2 ⟨rfl, h5⟩; have HB2 := Lib.hid h5; have HS2 := Lib.hid (And.intro ((h5.cell (p := ⟨wk.heap.size, 0, none⟩) hbw).trans HD.out.1) (And.intro ((h5.cell (p := ⟨wk.heap.size, 1, none⟩) hbw).trans HD.out.2.1) (And.intro ((h5.cell (p := ⟨wk.heap.size, 2, none⟩) hbw).trans HD.out.2.2.1) ((h5.cell (p := ⟨wk.heap.size, 3, none⟩) hbw).trans HD.out.2.2.2)))); have hbx2 := (h5.block wk.heap.size hbw).trans HBX.out; clear h5) | ((try go_simp); go_at_call 97; refine (HEM.out _).mono ?_; rintro e' w3 ⟨rfl, rfl⟩))
                obtain ⟨l0, l1, l2, l3⟩ := heap4P hbx2
                go_wp2
                go_ret
                exact ⟨ret_intM HZ.out, (below_then (below_drew HBB.out) HB2.out)⟩
              · rcases ways with ⟨ho, hE8⟩ | ⟨ho, hE8⟩
                · have q4 : (xk == 3) = true := by simp [h3]
                  have q4' : (xk != 3) = false := by simp [h3]
                  have q5 : (xk == 4) = false := by simpa using hb4
                  have hve : xv.isEmpty = true := by rw [hv]; rfl
                  have HZ := Lib.hid (HS.out _ hE8 (by decide))
                  have q7 : (xo != (o : Int)) = true := by simpa using ho
                  have q7' : (xo == (o : Int)) = false := by simpa using ho
                  clear ho hE8 HNX
                  clear h24 h3 hv hb4
                  have HD := Lib.hid (show wB.drew.cell? ⟨wk.heap.size, 0, none⟩ = some (intV xk) ∧ wB.drew.cell? ⟨wk.heap.size, 1, none⟩ = some (sV xn) ∧ wB.drew.cell? ⟨wk.heap.size, 2, none⟩ = some (sV xv) ∧ wB.drew.cell? ⟨wk.heap.size, 3, none⟩ = some (intV xo) from ⟨l0, l1, l2, l3⟩)
                  go_upto_region 6 with fail
                  rw [HW.out]
                  go_wp2_with fail
                  clear l0 l1 l2 l3
                  go_region_held3 (fun w' => w'.cell? ⟨wk.heap.size, 0, none⟩ = some (intV xk) ∧ w'.cell? ⟨wk.heap.size, 1, none⟩ = some (sV xn) ∧ w'.cell? ⟨wk.heap.size, 2, none⟩ = some (sV xv) ∧ w'.cell? ⟨wk.heap.size, 3, none⟩ = some (intV xo))
                    (first | exact HD.out | exact HS2.out)
                    (first | ((try go_simp); go_at_call 96; refine (HKN.out _).mono ?_; rintro e' w2 ⟨rfl, h5⟩; have HB2 := Lib.hid h5; have HS2 := Lib.hid (And.intro ((h5.cell (p := ⟨wk.heap.size, 0, none⟩) hbw).trans HD.out.1) (And.intro ((h5.cell (p := ⟨wk.heap.size, 1, none⟩) hbw).trans HD.out.2.1) (And.intro ((h5.cell (p := ⟨wk.heap.size, 2, none⟩) hbw).trans HD.out.2.2.1) ((h5.cell (p := ⟨wk.heap.size, 3, none⟩) hbw).trans HD.out.2.2.2)))); have hbx2 := (h5.block wk.heap.size hbw).trans HBX.out; clear h5) | ((try go_simp); go_at_call 97; refine (HEM.out _).mono ?_; rintro e' w3 ⟨rfl, rfl⟩))
                  obtain ⟨l0, l1, l2, l3⟩ := heap4P hbx2
                  go_wp2
                  go_ret
                  exact ⟨ret_intM HZ.out, (below_then (below_drew HBB.out) HB2.out)⟩
                · have q4 : (xk == 3) = true := by simp [h3]
                  have q4' : (xk != 3) = false := by simp [h3]
                  have q5 : (xk == 4) = false := by simpa using hb4
                  have hve : xv.isEmpty = true := by rw [hv]; rfl
                  have HC := Lib.hid (HG.out hE8)
                  have q7 : (xo != (o : Int)) = false := by simp [ho]
                  have q7' : (xo == (o : Int)) = true := by simp [ho]
                  have HP2 := Lib.hid (HNX.out (decide (xk = 1)) rfl)
                  clear ho hE8 HNX
                  clear h24 h3 hv hb4
                  have HD := Lib.hid (show wB.drew.cell? ⟨wk.heap.size, 0, none⟩ = some (intV xk) ∧ wB.drew.cell? ⟨wk.heap.size, 1, none⟩ = some (sV xn) ∧ wB.drew.cell? ⟨wk.heap.size, 2, none⟩ = some (sV xv) ∧ wB.drew.cell? ⟨wk.heap.size, 3, none⟩ = some (intV xo) from ⟨l0, l1, l2, l3⟩)
                  go_upto_region 6 with fail
                  rw [HW.out]
                  go_wp2_with fail
                  clear l0 l1 l2 l3
                  go_region_held3 (fun w' => w'.cell? ⟨wk.heap.size, 0, none⟩ = some (intV xk) ∧ w'.cell? ⟨wk.heap.size, 1, none⟩ = some (sV xn) ∧ w'.cell? ⟨wk.heap.size, 2, none⟩ = some (sV xv) ∧ w'.cell? ⟨wk.heap.size, 3, none⟩ = some (intV xo))
                    (first | exact HD.out | exact HS2.out)
                    (first | ((try go_simp); go_at_call 96; refine (HKN.out _).mono ?_; rintro e' w2 ⟨rfl, h5⟩; have HB2 := Lib.hid h5; have HS2 := Lib.hid (And.intro ((h5.cell (p := ⟨wk.heap.size, 0, none⟩) hbw).trans HD.out.1) (And.intro ((h5.cell (p := ⟨wk.heap.size, 1, none⟩) hbw).trans HD.out.2.1) (And.intro ((h5.cell (p := ⟨wk.heap.size, 2, none⟩) hbw).trans HD.out.2.2.1) ((h5.cell (p := ⟨wk.heap.size, 3, none⟩) hbw).trans HD.out.2.2.2)))); have hbx2 := (h5.block wk.heap.size hbw).trans HBX.out; clear h5) | ((try go_simp); go_at_call 97; refine (HEM.out _).mono ?_; rintro e' w3 ⟨rfl, rfl⟩))
                  obtain ⟨l0, l1, l2, l3⟩ := heap4P hbx2
                  go_wp2_with fail
                  refine (HFM.out _).mono ?_
                  rintro e' w4 ⟨rfl, h4⟩
                  have B4 := Lib.hid (below_then (below_then (below_drew HBB.out) HB2.out) h4)
                  clear h4
                  go_wp2
                  go_roundw
                  case rel => exact ⟨k + 1, o + fl, decide (xk = 1), by omega, by go_num, by go_num, hko, HP2, HC, B4.out⟩
                  case measure => simp [intOf]; omega
            · rcases ways with ⟨hrt, hE8⟩ | ⟨hrt, ways⟩
              · have q4 : (xk == 3) = false := by simpa using h3
                have q4' : (xk != 3) = true := by simpa using h3
                have HRI := Lib.hid (fun W => right_any xn xv false hrt m2 W)
                have HZ := Lib.hid (HS.out _ hE8 (by decide))
                clear hE8 HNX
                clear h24 h3 hrt
                cases hb4 : decide (xk = 4)
                · have q5 : (xk == 4) = false := by simpa using hb4
                  have HEM := Lib.hid (fun W => empty_any xn false (by rw [← hem, hb4]) W)
                  clear hem hb4
                  have HD := Lib.hid (show wB.drew.cell? ⟨wk.heap.size, 0, none⟩ = some (intV xk) ∧ wB.drew.cell? ⟨wk.heap.size, 1, none⟩ = some (sV xn) ∧ wB.drew.cell? ⟨wk.heap.size, 2, none⟩ = some (sV xv) ∧ wB.drew.cell? ⟨wk.heap.size, 3, none⟩ = some (intV xo) from ⟨l0, l1, l2, l3⟩)
                  go_upto_region 6 with fail
                  rw [HW.out]
                  go_wp2_with fail
                  clear l0 l1 l2 l3
                  go_region_held3 (fun w' => w'.cell? ⟨wk.heap.size, 0, none⟩ = some (intV xk) ∧ w'.cell? ⟨wk.heap.size, 1, none⟩ = some (sV xn) ∧ w'.cell? ⟨wk.heap.size, 2, none⟩ = some (sV xv) ∧ w'.cell? ⟨wk.heap.size, 3, none⟩ = some (intV xo))
                    (first | exact HD.out | exact HS2.out)
                    (first | ((try go_simp); go_at_call 96; refine (HKN.out _).mono ?_; rintro e' w2 ⟨rfl, h5⟩; have HB2 := Lib.hid h5; have HS2 := Lib.hid (And.intro ((h5.cell (p := ⟨wk.heap.size, 0, none⟩) hbw).trans HD.out.1) (And.intro ((h5.cell (p := ⟨wk.heap.size, 1, none⟩) hbw).trans HD.out.2.1) (And.intro ((h5.cell (p := ⟨wk.heap.size, 2, none⟩) hbw).trans HD.out.2.2.1) ((h5.cell (p := ⟨wk.heap.size, 3, none⟩) hbw).trans HD.out.2.2.2)))); have hbx2 := (h5.block wk.heap.size hbw).trans HBX.out; clear h5) | ((try go_simp); go_at_call 97; refine (HEM.out _).mono ?_; rintro e' w3 ⟨rfl, rfl⟩))
                  obtain ⟨l0, l1, l2, l3⟩ := heap4P hbx2
                  go_wp2_with fail
                  refine (HRI.out _).mono ?_
                  rintro e' w5 ⟨rfl, h5⟩
                  have hbx5 := (h5.block wk.heap.size (Nat.lt_of_lt_of_le hbw HB2.out.size)).trans hbx2
                  have HB5 := Lib.hid (below_then (below_then (below_drew HBB.out) HB2.out) h5)
                  clear h5 l0 l1 l2 l3
                  obtain ⟨l0, l1, l2, l3⟩ := heap4P hbx5
                  go_wp2
                  go_ret
                  exact ⟨ret_intM HZ.out, HB5.out⟩
                · have q5 : (xk == 4) = true := by simpa using hb4
                  have HEM := Lib.hid (fun W => empty_any xn true (by rw [← hem, hb4]) W)
                  clear hem hb4
                  have HD := Lib.hid (show wB.drew.cell? ⟨wk.heap.size, 0, none⟩ = some (intV xk) ∧ wB.drew.cell? ⟨wk.heap.size, 1, none⟩ = some (sV xn) ∧ wB.drew.cell? ⟨wk.heap.size, 2, none⟩ = some (sV xv) ∧ wB.drew.cell? ⟨wk.heap.size, 3, none⟩ = some (intV xo) from ⟨l0, l1, l2, l3⟩)
                  go_upto_region 6 with fail
                  rw [HW.out]
                  go_wp2_with fail
                  clear l0 l1 l2 l3
                  go_region_held3 (fun w' => w'.cell? ⟨wk.heap.size, 0, none⟩ = some (intV xk) ∧ w'.cell? ⟨wk.heap.size, 1, none⟩ = some (sV xn) ∧ w'.cell? ⟨wk.heap.size, 2, none⟩ = some (sV xv) ∧ w'.cell? ⟨wk.heap.size, 3, none⟩ = some (intV xo))
                    (first | exact HD.out | exact HS2.out)
                    (first | ((try go_simp); go_at_call 96; refine (HKN.out _).mono ?_; rintro e' w2 ⟨rfl, h5⟩; have HB2 := Lib.hid h5; have HS2 := Lib.hid (And.intro ((h5.cell (p := ⟨wk.heap.size, 0, none⟩) hbw).trans HD.out.1) (And.intro ((h5.cell (p := ⟨wk.heap.size, 1, none⟩) hbw).trans HD.out.2.1) (And.intro ((h5.cell (p := ⟨wk.heap.size, 2, none⟩) hbw).trans HD.out.2.2.1) ((h5.cell (p := ⟨wk.heap.size, 3, none⟩) hbw).trans HD.out.2.2.2)))); have hbx2 := (h5.block wk.heap.size hbw).trans HBX.out; clear h5) | ((try go_simp); go_at_call 97; refine (HEM.out _).mono ?_; rintro e' w3 ⟨rfl, rfl⟩))
                  obtain ⟨l0, l1, l2, l3⟩ := heap4P hbx2
                  go_wp2_with fail
                  refine (HRI.out _).mono ?_
                  rintro e' w5 ⟨rfl, h5⟩
                  have hbx5 := (h5.block wk.heap.size (Nat.lt_of_lt_of_le hbw HB2.out.size)).trans hbx2
                  have HB5 := Lib.hid (below_then (below_then (below_drew HBB.out) HB2.out) h5)
                  clear h5 l0 l1 l2 l3
                  obtain ⟨l0, l1, l2, l3⟩ := heap4P hbx5
                  go_wp2
                  go_ret
                  exact ⟨ret_intM HZ.out, HB5.out⟩
              · rcases ways with ⟨ho, hE8⟩ | ⟨ho, hE8⟩
                · have q4 : (xk == 3) = false := by simpa using h3
                  have q4' : (xk != 3) = true := by simpa using h3
                  have HRI := Lib.hid (fun W => right_any xn xv true hrt m2 W)
                  have HZ := Lib.hid (HS.out _ hE8 (by decide))
                  have q7 : (xo != (o : Int)) = true := by simpa using ho
                  have q7' : (xo == (o : Int)) = false := by simpa using ho
                  clear ho hE8 HNX
                  clear h24 h3 hrt
                  cases hb4 : decide (xk = 4)
                  · have q5 : (xk == 4) = false := by simpa using hb4
                    have HEM := Lib.hid (fun W => empty_any xn false (by rw [← hem, hb4]) W)
                    clear hem hb4
                    have HD := Lib.hid (show wB.drew.cell? ⟨wk.heap.size, 0, none⟩ = some (intV xk) ∧ wB.drew.cell? ⟨wk.heap.size, 1, none⟩ = some (sV xn) ∧ wB.drew.cell? ⟨wk.heap.size, 2, none⟩ = some (sV xv) ∧ wB.drew.cell? ⟨wk.heap.size, 3, none⟩ = some (intV xo) from ⟨l0, l1, l2, l3⟩)
                    go_upto_region 6 with fail
                    rw [HW.out]
                    go_wp2_with fail
                    clear l0 l1 l2 l3
                    go_region_held3 (fun w' => w'.cell? ⟨wk.heap.size, 0, none⟩ = some (intV xk) ∧ w'.cell? ⟨wk.heap.size, 1, none⟩ = some (sV xn) ∧ w'.cell? ⟨wk.heap.size, 2, none⟩ = some (sV xv) ∧ w'.cell? ⟨wk.heap.size, 3, none⟩ = some (intV xo))
                      (first | exact HD.out | exact HS2.out)
                      (first | ((try go_simp); go_at_call 96; refine (HKN.out _).mono ?_; rintro e' w2 ⟨rfl, h5⟩; have HB2 := Lib.hid h5; have HS2 := Lib.hid (And.intro ((h5.cell (p := ⟨wk.heap.size, 0, none⟩) hbw).trans HD.out.1) (And.intro ((h5.cell (p := ⟨wk.heap.size, 1, none⟩) hbw).trans HD.out.2.1) (And.intro ((h5.cell (p := ⟨wk.heap.size, 2, none⟩) hbw).trans HD.out.2.2.1) ((h5.cell (p := ⟨wk.heap.size, 3, none⟩) hbw).trans HD.out.2.2.2)))); have hbx2 := (h5.block wk.heap.size hbw).trans HBX.out; clear h5) | ((try go_simp); go_at_call 97; refine (HEM.out _).mono ?_; rintro e' w3 ⟨rfl, rfl⟩))
                    obtain ⟨l0, l1, l2, l3⟩ := heap4P hbx2
                    go_wp2_with fail
                    refine (HRI.out _).mono ?_
                    rintro e' w5 ⟨rfl, h5⟩
                    have hbx5 := (h5.block wk.heap.size (Nat.lt_of_lt_of_le hbw HB2.out.size)).trans hbx2
                    have HB5 := Lib.hid (below_then (below_then (below_drew HBB.out) HB2.out) h5)
                    clear h5 l0 l1 l2 l3
                    obtain ⟨l0, l1, l2, l3⟩ := heap4P hbx5
                    go_wp2
                    go_ret
                    exact ⟨ret_intM HZ.out, HB5.out⟩
                  · have q5 : (xk == 4) = true := by simpa using hb4
                    have HEM := Lib.hid (fun W => empty_any xn true (by rw [← hem, hb4]) W)
                    clear hem hb4
                    have HD := Lib.hid (show wB.drew.cell? ⟨wk.heap.size, 0, none⟩ = some (intV xk) ∧ wB.drew.cell? ⟨wk.heap.size, 1, none⟩ = some (sV xn) ∧ wB.drew.cell? ⟨wk.heap.size, 2, none⟩ = some (sV xv) ∧ wB.drew.cell? ⟨wk.heap.size, 3, none⟩ = some (intV xo) from ⟨l0, l1, l2, l3⟩)
                    go_upto_region 6 with fail
                    rw [HW.out]
                    go_wp2_with fail
                    clear l0 l1 l2 l3
                    go_region_held3 (fun w' => w'.cell? ⟨wk.heap.size, 0, none⟩ = some (intV xk) ∧ w'.cell? ⟨wk.heap.size, 1, none⟩ = some (sV xn) ∧ w'.cell? ⟨wk.heap.size, 2, none⟩ = some (sV xv) ∧ w'.cell? ⟨wk.heap.size, 3, none⟩ = some (intV xo))
                      (first | exact HD.out | exact HS2.out)
                      (first | ((try go_simp); go_at_call 96; refine (HKN.out _).mono ?_; rintro e' w2 ⟨rfl, h5⟩; have HB2 := Lib.hid h5; have HS2 := Lib.hid (And.intro ((h5.cell (p := ⟨wk.heap.size, 0, none⟩) hbw).trans HD.out.1) (And.intro ((h5.cell (p := ⟨wk.heap.size, 1, none⟩) hbw).trans HD.out.2.1) (And.intro ((h5.cell (p := ⟨wk.heap.size, 2, none⟩) hbw).trans HD.out.2.2.1) ((h5.cell (p := ⟨wk.heap.size, 3, none⟩) hbw).trans HD.out.2.2.2)))); have hbx2 := (h5.block wk.heap.size hbw).trans HBX.out; clear h5) | ((try go_simp); go_at_call 97; refine (HEM.out _).mono ?_; rintro e' w3 ⟨rfl, rfl⟩))
                    obtain ⟨l0, l1, l2, l3⟩ := heap4P hbx2
                    go_wp2_with fail
                    refine (HRI.out _).mono ?_
                    rintro e' w5 ⟨rfl, h5⟩
                    have hbx5 := (h5.block wk.heap.size (Nat.lt_of_lt_of_le hbw HB2.out.size)).trans hbx2
                    have HB5 := Lib.hid (below_then (below_then (below_drew HBB.out) HB2.out) h5)
                    clear h5 l0 l1 l2 l3
                    obtain ⟨l0, l1, l2, l3⟩ := heap4P hbx5
                    go_wp2
                    go_ret
                    exact ⟨ret_intM HZ.out, HB5.out⟩
                · have q4 : (xk == 3) = false := by simpa using h3
                  have q4' : (xk != 3) = true := by simpa using h3
                  have HRI := Lib.hid (fun W => right_any xn xv true hrt m2 W)
                  have HC := Lib.hid (HG.out hE8)
                  have q7 : (xo != (o : Int)) = false := by simp [ho]
                  have q7' : (xo == (o : Int)) = true := by simp [ho]
                  have HP2 := Lib.hid (HNX.out (decide (xk = 1)) rfl)
                  clear ho hE8 HNX
                  clear h24 h3 hrt
                  cases hb4 : decide (xk = 4)
                  · have q5 : (xk == 4) = false := by simpa using hb4
                    have HEM := Lib.hid (fun W => empty_any xn false (by rw [← hem, hb4]) W)
                    clear hem hb4
                    have HD := Lib.hid (show wB.drew.cell? ⟨wk.heap.size, 0, none⟩ = some (intV xk) ∧ wB.drew.cell? ⟨wk.heap.size, 1, none⟩ = some (sV xn) ∧ wB.drew.cell? ⟨wk.heap.size, 2, none⟩ = some (sV xv) ∧ wB.drew.cell? ⟨wk.heap.size, 3, none⟩ = some (intV xo) from ⟨l0, l1, l2, l3⟩)
                    go_upto_region 6 with fail
                    rw [HW.out]
                    go_wp2_with fail
                    clear l0 l1 l2 l3
                    go_region_held3 (fun w' => w'.cell? ⟨wk.heap.size, 0, none⟩ = some (intV xk) ∧ w'.cell? ⟨wk.heap.size, 1, none⟩ = some (sV xn) ∧ w'.cell? ⟨wk.heap.size, 2, none⟩ = some (sV xv) ∧ w'.cell? ⟨wk.heap.size, 3, none⟩ = some (intV xo))
                      (first | exact HD.out | exact HS2.out)
                      (first | ((try go_simp); go_at_call 96; refine (HKN.out _).mono ?_; rintro e' w2 ⟨rfl, h5⟩; have HB2 := Lib.hid h5; have HS2 := Lib.hid (And.intro ((h5.cell (p := ⟨wk.heap.size, 0, none⟩) hbw).trans HD.out.1) (And.intro ((h5.cell (p := ⟨wk.heap.size, 1, none⟩) hbw).trans HD.out.2.1) (And.intro ((h5.cell (p := ⟨wk.heap.size, 2, none⟩) hbw).trans HD.out.2.2.1) ((h5.cell (p := ⟨wk.heap.size, 3, none⟩) hbw).trans HD.out.2.2.2)))); have hbx2 := (h5.block wk.heap.size hbw).trans HBX.out; clear h5) | ((try go_simp); go_at_call 97; refine (HEM.out _).mono ?_; rintro e' w3 ⟨rfl, rfl⟩))
                    obtain ⟨l0, l1, l2, l3⟩ := heap4P hbx2
                    go_wp2_with fail
                    refine (HRI.out _).mono ?_
                    rintro e' w5 ⟨rfl, h5⟩
                    have hbx5 := (h5.block wk.heap.size (Nat.lt_of_lt_of_le hbw HB2.out.size)).trans hbx2
                    have HB5 := Lib.hid (below_then (below_then (below_drew HBB.out) HB2.out) h5)
                    clear h5 l0 l1 l2 l3
                    obtain ⟨l0, l1, l2, l3⟩ := heap4P hbx5
                    go_wp2_with fail
                    refine (HFM.out _).mono ?_
                    rintro e' w4 ⟨rfl, h4⟩
                    have B4 := Lib.hid (below_then HB5.out h4)
                    clear h4
                    go_wp2
                    go_roundw
                    case rel => exact ⟨k + 1, o + fl, decide (xk = 1), by omega, by go_num, by go_num, hko, HP2, HC, B4.out⟩
                    case measure => simp [intOf]; omega
                  · have q5 : (xk == 4) = true := by simpa using hb4
                    have HEM := Lib.hid (fun W => empty_any xn true (by rw [← hem, hb4]) W)
                    clear hem hb4
                    have HD := Lib.hid (show wB.drew.cell? ⟨wk.heap.size, 0, none⟩ = some (intV xk) ∧ wB.drew.cell? ⟨wk.heap.size, 1, none⟩ = some (sV xn) ∧ wB.drew.cell? ⟨wk.heap.size, 2, none⟩ = some (sV xv) ∧ wB.drew.cell? ⟨wk.heap.size, 3, none⟩ = some (intV xo) from ⟨l0, l1, l2, l3⟩)
                    go_upto_region 6 with fail
                    rw [HW.out]
                    go_wp2_with fail
                    clear l0 l1 l2 l3
                    go_region_held3 (fun w' => w'.cell? ⟨wk.heap.size, 0, none⟩ = some (intV xk) ∧ w'.cell? ⟨wk.heap.size, 1, none⟩ = some (sV xn) ∧ w'.cell? ⟨wk.heap.size, 2, none⟩ = some (sV xv) ∧ w'.cell? ⟨wk.heap.size, 3, none⟩ = some (intV xo))
                      (first | exact HD.out | exact HS2.out)
                      (first | ((try go_simp); go_at_call 96; refine (HKN.out _).mono ?_; rintro e' w2 ⟨rfl, h5⟩; have HB2 := Lib.hid h5; have HS2 := Lib.hid (And.intro ((h5.cell (p := ⟨wk.heap.size, 0, none⟩) hbw).trans HD.out.1) (And.intro ((h5.cell (p := ⟨wk.heap.size, 1, none⟩) hbw).trans HD.out.2.1) (And.intro ((h5.cell (p := ⟨wk.heap.size, 2, none⟩) hbw).trans HD.out.2.2.1) ((h5.cell (p := ⟨wk.heap.size, 3, none⟩) hbw).trans HD.out.2.2.2)))); have hbx2 := (h5.block wk.heap.size hbw).trans HBX.out; clear h5) | ((try go_simp); go_at_call 97; refine (HEM.out _).mono ?_; rintro e' w3 ⟨rfl, rfl⟩))
                    obtain ⟨l0, l1, l2, l3⟩ := heap4P hbx2
                    go_wp2_with fail
                    refine (HRI.out _).mono ?_
                    rintro e' w5 ⟨rfl, h5⟩
                    have hbx5 := (h5.block wk.heap.size (Nat.lt_of_lt_of_le hbw HB2.out.size)).trans hbx2
                    have HB5 := Lib.hid (below_then (below_then (below_drew HBB.out) HB2.out) h5)
                    clear h5 l0 l1 l2 l3
                    obtain ⟨l0, l1, l2, l3⟩ := heap4P hbx5
                    go_wp2_with fail
                    refine (HFM.out _).mono ?_
                    rintro e' w4 ⟨rfl, h4⟩
                    have B4 := Lib.hid (below_then HB5.out h4)
                    clear h4
                    go_wp2
                    go_roundw
                    case rel => exact ⟨k + 1, o + fl, decide (xk = 1), by omega, by go_num, by go_num, hko, HP2, HC, B4.out⟩
                    case measure => simp [intOf]; omega
    · have hkl : L.drop k = [] := List.drop_eq_nil_of_le (by omega)
      have he := HE.out
      rw [hkl] at he
      have hz : (if 65536 < o then 4 else 0 : Int) = e := he
      clear hB hkl he
      by_cases h6 : 65536 < o
      · rw [if_pos h6] at hz
        have q : decide ((65536 : Int) < (o : Int)) = true := decide_eq_true (by omega)
        have HZ := Lib.hid hz
        clear hz
        go_wp2
        go_ret
        exact ⟨ret_intM HZ.out, HB.out⟩
      · rw [if_neg h6] at hz
        have q : decide ((65536 : Int) < (o : Int)) = false := decide_eq_false (by omega)
        have HZ := Lib.hid hz
        clear hz
        go_wp2
        go_ret
        exact ⟨ret_intM HZ.out, HB.out⟩
end Go.Proofs.YtmfcepfagbkceaaGreatDoor
