/- The program's Apply: the check of the edits, then what they make. -/
import Derived.Test.YtbdeakodmhcgdaaEdBuild
import Derived.Test.YtbdeakodmhcgdaaEdEdits
namespace Go.Proofs.Ytbdeakodmhcgdaa
set_option linter.unusedSimpArgs false
set_option linter.unusedVariables false
set_option maxRecDepth 100000
open Go.RowKit Go.Deep

theorem below_seq2 {N M : Nat} {w w1 w2 : World} (h1 : Below N w w1) (h2 : Below M w1 w2) (h : N ≤ M) : Below N w w2 := h1.trans (h2.mono h)
def edOk (pl ln : Int) (n : Nat) : Prop := 0 ≤ pl ∧ pl ≤ n ∧ 0 ≤ ln ∧ ln ≤ (n : Int) - pl
instance (pl ln : Int) (n : Nat) : Decidable (edOk pl ln n) := by unfold edOk; infer_instance
set_option maxHeartbeats 1000000 in
theorem lies_any (pl ln : Int) (tx : ByteArray) (n : Nat) (hn : n ≤ 1000000) (r : Bool) (hr : decide (edOk pl ln n) = r) (w : World) :
    Calls Try.prog 66 #[.agg #[.int .i64 pl, .int .i64 ln, .string tx], intV n] w fun e w' => e = .returned (.bool r) ∧ Below w.heap.size w w' := by
  have hB := (Below.refl w.heap.size w).alloc (Nat.le_refl _) (.cells #[.int .i64 pl, .int .i64 ln, .string tx] 38)
  have HB := Lib.hid hB
  clear hB
  by_cases h1 : 0 ≤ pl
  · by_cases h2 : pl ≤ n
    · have hw : IntKind.i64.wrap ((n : Int) - pl) = (n : Int) - pl := IntWalk.i64_in _ (by omega)
      by_cases h3 : 0 ≤ ln
      · by_cases h4 : ln ≤ (n : Int) - pl
        · obtain rfl : true = r := by rw [← hr]; exact (decide_eq_true (show edOk pl ln n from ⟨h1, h2, h3, h4⟩)).symm
          clear hr
          go_enter Try.func66, Try.ntmps66
          go_wp2
          go_ret
          exact ⟨rfl, HB.out⟩
        · obtain rfl : false = r := by rw [← hr]; exact (decide_eq_false (show ¬ edOk pl ln n from fun h => h4 h.2.2.2)).symm
          clear hr
          go_enter Try.func66, Try.ntmps66
          go_wp2
          go_ret
          exact ⟨rfl, HB.out⟩
      · obtain rfl : false = r := by rw [← hr]; exact (decide_eq_false (show ¬ edOk pl ln n from fun h => h3 h.2.2.1)).symm
        clear hr hw
        go_enter Try.func66, Try.ntmps66
        go_wp2
        go_ret
        exact ⟨rfl, HB.out⟩
    · obtain rfl : false = r := by rw [← hr]; exact (decide_eq_false (show ¬ edOk pl ln n from fun h => h2 h.2.1)).symm
      clear hr
      go_enter Try.func66, Try.ntmps66
      go_wp2
      go_ret
      exact ⟨rfl, HB.out⟩
  · obtain rfl : false = r := by rw [← hr]; exact (decide_eq_false (show ¬ edOk pl ln n from fun h => h1 h.1)).symm
    clear hr
    go_enter Try.func66, Try.ntmps66
    go_wp2
    go_ret
    exact ⟨rfl, HB.out⟩

theorem apply_big (s : ByteArray) (v : Value) (es : List EdV) (h : 65536 < s.size) (hs : s.size ≤ maxLen) (w : World) :
    Calls Try.prog 30 #[.string s, v] w fun e w' => e = .returned (strV (applyR s.data.toList es)) ∧ Below w.heap.size w w' := by
  unfold maxLen at hs
  have hr : applyR s.data.toList es = ([], 4) := by rw [applyR, if_pos (by rw [size_list]; exact h)]
  rw [hr]
  clear hr
  go_enter Try.func30, Try.ntmps30
  go_wp2
  go_ret2
  exact ⟨rfl, Below.refl _ _⟩
/-- the state of the check behind k edits -/
def MidP (l : List UInt8) (es : List EdV) (k : Nat) (at_ : Nat) (z : Int) : Prop := Mid l es k (stE l es k).1 at_ z
theorem MidP.next {l : List UInt8} {es : List EdV} {k : Nat} {at_ : Nat} {z : Int} (h : MidP l es k at_ z) (hk : k < es.length) (pl ln : Nat) (tx : ByteArray) (he : es[k] = ⟨pl, ln, tx⟩) (h8 : tx.size ≤ 8)
    (h1 : pl ≤ l.length) (h2 : ln ≤ l.length - pl) (h3 : at_ ≤ pl) : MidP l es (k + 1) (pl + ln) (z + tx.size - ln) := by
  have m := Mid.next h hk pl ln tx he h8 h1 h2 h3
  exact ⟨m.place, m.le, m.size, m.low, m.high, .inl rfl, m.bad⟩
theorem MidP.start (l : List UInt8) (es : List EdV) : MidP l es 0 0 l.length := by
  have m := Mid.start l es
  exact ⟨m.place, m.le, m.size, m.low, m.high, .inl rfl, m.bad⟩

theorem MidP.good {l : List UInt8} {es : List EdV} {k : Nat} {at_ : Nat} {z : Int} (h : MidP l es k at_ z) (hb : badE l.length 0 es = 0) (hk : k < es.length) :
    ∃ (pn l0 : Nat) (tx : ByteArray), es[k] = ⟨pn, l0, tx⟩ ∧ at_ ≤ pn ∧ pn ≤ l.length ∧ l0 ≤ l.length - pn := by
  have e := Mid.bad h
  rw [hb, List.drop_eq_getElem_cons hk, badE] at e
  obtain ⟨⟨pl, ln, tx⟩, he⟩ : ∃ e, es[k] = e := ⟨_, rfl⟩
  rw [he] at e ⊢
  by_cases c1 : pl < 0 ∨ ln < 0 ∨ (l.length : Int) < pl ∨ (l.length : Int) - pl < ln
  · rw [if_pos c1] at e; omega
  · rw [if_neg c1] at e
    by_cases c2 : pl < (at_ : Int)
    · rw [if_pos c2] at e; omega
    · refine ⟨pl.toNat, ln.toNat, tx, ?_, by omega, by omega, by omega⟩
      rw [EdV.mk.injEq]; exact ⟨by omega, by omega, rfl⟩
theorem cells_step {l : List UInt8} {es : List EdV} {s : ByteArray} (hs : s.data.toList = l) {k a pn l0 : Nat} {tx : ByteArray} (hk : k < es.length) (ha : (stE l es k).2 = a) (he : es[k] = ⟨pn, l0, tx⟩) :
    Lib.byteCells (stE l es k).1 ++ Lib.strCells (s.extract a pn) ++ Lib.strCells tx = Lib.byteCells (stE l es (k + 1)).1 := by
  rw [stE_step l es k hk, he, show EdV.plain ⟨pn, l0, tx⟩ = (pn, l0, tx.data.toList) from rfl, putE, ha]
  simp only [Lib.byteCells, Lib.strCells, List.map_append]
  rw [ext_list, hs]
theorem cellE {w : World} {k : Nat} {e : EdV} (h : w.heap[k]? = some (.cells #[.int .i64 e.place, .int .i64 e.len, .string e.text] 38 (0, 0))) :
    w.cell? ⟨k, 0, none⟩ = some (.int .i64 e.place) ∧ w.cell? ⟨k, 1, none⟩ = some (.int .i64 e.len) ∧ w.cell? ⟨k, 2, none⟩ = some (.string e.text) := by
  refine ⟨?_, ?_, ?_⟩ <;> (rw [Lib.cell_of_heap h]; rfl)

set_option maxHeartbeats 8000000 in
theorem apply_any (s : ByteArray) (es : List EdV) (v : Value) (w : World) (hv : EditsAt w v es) (hl : es.length ≤ 1000) (ht : ∀ e ∈ es, e.text.size ≤ 8) (hs : ¬ 65536 < s.size) :
    Calls Try.prog 30 #[.string s, v] w fun e w' => e = .returned (strV (applyR s.data.toList es)) ∧ Below w.heap.size w w' := by
  obtain ⟨ax, cx, rfl, hcx⟩ := hv
  have HX := Lib.hid hcx
  have H8 := Lib.hid ht
  have HS := Lib.hid (show ¬ 65536 < s.data.toList.length by rw [size_list]; exact hs)
  clear hcx ht
  go_enter Try.func30, Try.ntmps30
  go_wp2
  go_loopw [6, 7, 9, 20] (fun z p _ i wr => ∃ k : Nat, k ≤ es.length ∧ i = .int .i64 k ∧ ∃ (a : Nat) (x : Int), p = .int .i64 a ∧ z = .int .i64 x ∧ MidP s.data.toList es k a x ∧ Below w.heap.size w wr) (fun _ _ _ i _ => es.length - (intOf i).toNat)
  case atStart => exact ⟨0, Nat.zero_le _, rfl, 0, s.size, rfl, rfl, by have := MidP.start s.data.toList es; rw [size_list] at this; exact this, Below.refl _ _⟩
  case round =>
    obtain ⟨k, hk, rfl, a, x, rfl, rfl, hM, hB⟩ := hrel
    have HM := Lib.hid hM
    have hle := Mid.le hM
    have hlo := Mid.low hM
    have hhi := Mid.high hM
    rw [size_list] at hle hhi
    clear hM
    by_cases hlt : k < es.length
    · obtain ⟨bx, ox, rfl, hbx, hcx⟩ := HX.out (by omega)
      obtain ⟨q1, q2, q3⟩ := hcx k hlt
      have c1 := (hB.cell (p := ⟨bx, ox + k * 3, none⟩) hbx).trans q1
      have c2 := (hB.cell (p := ⟨bx, ox + k * 3 + 1, none⟩) hbx).trans q2
      have c3 := (hB.cell (p := ⟨bx, ox + k * 3 + 2, none⟩) hbx).trans q3
      clear hcx q1 q2 q3
      have h8 := H8.out es[k] (List.getElem_mem hlt)
      obtain ⟨e, he⟩ : ∃ e, es[k] = e := ⟨_, rfl⟩
      have RB := Lib.hid (fun hb => Mid.range HM.out hlt hb HS.out)
      have OB := Lib.hid (fun hb ho => Mid.order HM.out hlt hb ho HS.out)
      rw [he] at c1 c2 c3 h8 RB OB
      rw [size_list] at RB OB
      have HE := Lib.hid he
      clear he
      obtain ⟨pl, ln, tx⟩ := e
      simp only at c1 c2 c3 h8 RB OB
      have HBa := Lib.hid (hB.alloc hB.size (.cells #[.int .i64 pl, .int .i64 ln, .string tx] 38))
      obtain ⟨r, hr⟩ : ∃ r, decide (edOk pl ln s.size) = r := ⟨_, rfl⟩
      have LA := Lib.hid (lies_any pl ln tx s.size (by omega) r hr)
      have HB := Lib.hid hB
      by_cases hbad : pl < 0 ∨ ln < 0 ∨ (s.size : Int) < pl ∨ (s.size : Int) - pl < ln
      · obtain rfl : false = r := by rw [← hr]; exact (decide_eq_false (show ¬ edOk pl ln s.size by unfold edOk; omega)).symm
        have HR := Lib.hid (RB.out hbad)
        clear RB OB hr hbad
        go_wp2_with fail
        refine (LA.out _).mono ?_
        rintro e w1 ⟨rfl, b1⟩
        have B1 := Lib.hid (below_seq2 HBa.out b1 HBa.out.size)
        clear b1
        go_wp2
        go_ret2
        exact ⟨ret_str HR.out, B1.out⟩
      · obtain rfl : true = r := by rw [← hr]; exact (decide_eq_true (show edOk pl ln s.size by unfold edOk; omega)).symm
        clear RB hr
        by_cases ho : pl < (a : Int)
        · have HR := Lib.hid (OB.out hbad ho)
          clear OB
          go_wp2_with fail
          refine (LA.out _).mono ?_
          rintro e w1 ⟨rfl, b1⟩
          have B1 := Lib.hid (below_seq2 HBa.out b1 HBa.out.size)
          have d0 := (b1.cell (p := ⟨wr.heap.size, 0, none⟩) (by simp)).trans (show _ = some (Value.int .i64 pl) by rw [World.cell?_alloc_new]; rfl)
          clear b1
          go_wp2
          go_ret2
          exact ⟨ret_str HR.out, B1.out⟩
        · clear OB
          obtain ⟨pn, rfl⟩ : ∃ pn : Nat, pl = pn := ⟨pl.toNat, by omega⟩
          obtain ⟨l0, rfl⟩ : ∃ l0 : Nat, ln = l0 := ⟨ln.toNat, by omega⟩
          have g2 : pn ≤ s.size := by omega
          have g3 : (l0 : Int) ≤ (s.size : Int) - pn := by omega
          have g4 : a ≤ pn := by omega
          have HN := Lib.hid (HM.out.next hlt pn l0 tx HE.out h8 (by rw [size_list]; exact g2) (by rw [size_list]; omega) g4)
          have hw1 : IntKind.i64.wrap ((pn : Int) + (l0 : Int)) = (pn : Int) + (l0 : Int) := IntWalk.i64_in _ (by omega)
          have hw2 : IntKind.i64.wrap ((tx.size : Int) - (l0 : Int)) = (tx.size : Int) - (l0 : Int) := IntWalk.i64_in _ (by omega)
          have hw3 : IntKind.i64.wrap (x + ((tx.size : Int) - (l0 : Int))) = x + ((tx.size : Int) - (l0 : Int)) := IntWalk.i64_in _ (by omega)
          clear hbad
          go_wp2_with fail
          refine (LA.out _).mono ?_
          rintro e w1 ⟨rfl, b1⟩
          have B1 := Lib.hid (below_seq2 HBa.out b1 HBa.out.size)
          have d0 := (b1.cell (p := ⟨wr.heap.size, 0, none⟩) (by simp)).trans (show _ = some (Value.int .i64 pn) by rw [World.cell?_alloc_new]; rfl)
          have d1 := (b1.cell (p := ⟨wr.heap.size, 1, none⟩) (by simp)).trans (show _ = some (Value.int .i64 l0) by rw [World.cell?_alloc_new]; rfl)
          have d2 := (b1.cell (p := ⟨wr.heap.size, 2, none⟩) (by simp)).trans (show _ = some (Value.string tx) by rw [World.cell?_alloc_new]; rfl)
          clear b1
          go_wp2
          go_roundw
          case rel => exact ⟨k + 1, by omega, by go_num, pn + l0, x + tx.size - l0, by go_num, by go_num, HN.out, B1.out⟩
          case measure => simp [intOf]; omega
    · obtain rfl : k = es.length := by omega
      obtain ⟨f1, f2⟩ := Mid.end_ HM.out HS.out
      by_cases hx : 65536 < x
      · have HR := Lib.hid (f1 hx)
        clear f1 f2
        go_wp2
        go_ret2
        exact ⟨ret_str HR.out, hB⟩
      · have HR := Lib.hid (f2 (by omega))
        clear f1 f2
        have hx2 : x ≤ 65536 := by omega
        have hlen := Mid.out_le HM.out
        have hbad0 : badE s.data.toList.length 0 es = 0 := by have := Mid.bad HM.out; rwa [List.drop_length, badE] at this
        have HBAD := Lib.hid hbad0
        have hB0 := hB.alloc hB.size (.cells #[.pointer none, .slice none 0 0] 85)
        have HIS := Lib.hid (Lib.fresh_isBuilder 85 5 wr)
        have HB0 := Lib.hid hB0
        obtain ⟨N, hN⟩ : ∃ N, wr.heap.size = N := ⟨_, rfl⟩
        have hwN : w.heap.size ≤ N := by rw [← hN]; exact hB.size
        have HNN := Lib.hid (show N ≤ (wr.alloc (.cells #[.pointer none, .slice none 0 0] 85)).heap.size by rw [nblk_alloc]; omega)
        rw [hN] at HIS
        clear hB hbad0 hB0
        go_wp2
        clear hN
        go_loopw [7, 12, 51] (fun p _ i wq => ∃ k : Nat, k ≤ es.length ∧ i = .int .i64 k ∧ ∃ (b : Nat) (y : Int), p = .int .i64 b ∧ MidP s.data.toList es k b y ∧ IsB N N (Lib.byteCells (stE s.data.toList es k).1) wq ∧ Below w.heap.size w wq ∧ N ≤ wq.heap.size) (fun _ _ i _ => es.length - (intOf i).toNat)
        case atStart => exact ⟨0, Nat.zero_le _, rfl, 0, s.data.toList.length, rfl, MidP.start s.data.toList es, HIS.out, HB0.out, HNN.out⟩
        case round =>
          clear HIS HB0 HNN
          obtain ⟨k, hk, rfl, b, y, rfl, hM2, hI, hB, hNq⟩ := hrel
          have HM2 := Lib.hid hM2
          have HI := Lib.hid hI
          have HB := Lib.hid hB
          have hle2 := Mid.le hM2
          have hhi2 := Mid.high hM2
          have hol2 := Mid.out_le hM2
          rw [size_list] at hle2 hhi2
          have hcl : (Lib.byteCells (stE s.data.toList es k).1).length = (stE s.data.toList es k).1.length := by simp [Lib.byteCells]
          clear hI
          by_cases hlt : k < es.length
          · obtain ⟨bx, ox, rfl, hbx, hcx⟩ := HX.out (by omega)
            obtain ⟨q1, q2, q3⟩ := hcx k hlt
            have c1 := (hB.cell (p := ⟨bx, ox + k * 3, none⟩) hbx).trans q1
            have c2 := (hB.cell (p := ⟨bx, ox + k * 3 + 1, none⟩) hbx).trans q2
            have c3 := (hB.cell (p := ⟨bx, ox + k * 3 + 2, none⟩) hbx).trans q3
            obtain ⟨pn, l0, tx, he, g4, g2, g3⟩ := hM2.good HBAD.out hlt
            have h8 := H8.out es[k] (List.getElem_mem hlt)
            have HNX := Lib.hid (hM2.next hlt pn l0 tx he (by rw [he] at h8; exact h8) g2 g3 g4)
            have HST := Lib.hid (cells_step (s := s) rfl hlt (Mid.place hM2) he)
            rw [he] at c1 c2 c3 h8
            simp only at c1 c2 c3 h8
            rw [size_list] at g2 g3
            clear hcx q1 q2 q3 he hM2
            obtain ⟨E, hE⟩ : ∃ E, wr.heap.size = E := ⟨_, rfl⟩
            have hWE : (wr.alloc (.cells #[.int .i64 pn, .int .i64 l0, .string tx] 38)).heap[E]? = some (.cells #[.int .i64 pn, .int .i64 l0, .string tx] 38 (0, 0)) := by rw [← hE]; exact blk_alloc_new _ _
            have HWE := Lib.hid hWE
            obtain ⟨d0, d1, d2⟩ := cellE (e := ⟨pn, l0, tx⟩) hWE
            simp only at d0 d1 d2
            have HA := Lib.hid (isB_alloc HI.out (.cells #[.int .i64 pn, .int .i64 l0, .string tx] 38))
            have HBa := Lib.hid (hB.alloc hB.size (.cells #[.int .i64 pn, .int .i64 l0, .string tx] 38))
            have hNa : N ≤ (wr.alloc (.cells #[.int .i64 pn, .int .i64 l0, .string tx] 38)).heap.size := by rw [nblk_alloc]; omega
            have HNa := Lib.hid hNa
            have hes : (s.extract b pn).size = pn - b := by rw [ByteArray.size_extract]; omega
            have hlen1 : (Lib.byteCells (stE s.data.toList es k).1).length + (s.extract b pn).size ≤ 140737488355328 := by omega
            have hlen2 : (Lib.byteCells (stE s.data.toList es k).1 ++ Lib.strCells (s.extract b pn)).length + tx.size ≤ 140737488355328 := by rw [List.length_append, Lib.strCells_length]; omega
            have HL1 := Lib.hid hlen1
            have HL2 := Lib.hid hlen2
            have hw1 : IntKind.i64.wrap ((pn : Int) + (l0 : Int)) = (pn : Int) + (l0 : Int) := IntWalk.i64_in _ (by omega)
            clear hWE hB hNa hes hlen1 hlen2 hcl hol2
            go_wp2_with fail
            refine (writeString_any N N _ _ _ HA.out HL1.out HNa.out).mono ?_
            rintro e w1 ⟨rfl, hu1, hb1, hk1⟩
            have HK1 := Lib.hid (hk1 E _ _ HWE.out (by decide) (by decide))
            obtain ⟨e0, e1, e2⟩ := cellE (e := ⟨pn, l0, tx⟩) HK1.out
            simp only at e0 e1 e2
            have HU1 := Lib.hid hu1
            have HB1 := Lib.hid (below_seq2 HBa.out hb1 hwN)
            have HN1 := Lib.hid (Nat.le_trans HNa.out hb1.size)
            clear hu1 hb1 hk1 d0 d1 d2
            go_wp2_with fail
            refine (writeString_any N N _ _ _ (Or.inr HU1.out) HL2.out HN1.out).mono ?_
            rintro e w2 ⟨rfl, hu2, hb2, hk2⟩
            obtain ⟨f0, f1, f2⟩ := cellE (e := ⟨pn, l0, tx⟩) (hk2 E _ _ HK1.out (by decide) (by decide))
            simp only at f0 f1 f2
            have HU2 := Lib.hid hu2
            have HB2 := Lib.hid (below_seq2 HB1.out hb2 hwN)
            have HN2 := Lib.hid (Nat.le_trans HN1.out hb2.size)
            clear hu2 hb2 hk2 e0 e1 e2
            go_wp2
            go_roundw
            case rel => exact ⟨k + 1, by omega, by go_num, pn + l0, _, by go_num, HNX.out, Or.inr (by rw [← HST.out]; exact HU2.out), HB2.out, HN2.out⟩
            case measure => simp [intOf]; omega
          · obtain rfl : k = es.length := by omega
            have hab : b = a := (Mid.place HM2.out).symm.trans (Mid.place HM.out)
            subst hab
            have hes : (s.extract b s.size).size = s.size - b := by rw [ByteArray.size_extract]; omega
            have hlen1 : (Lib.byteCells (stE s.data.toList es es.length).1).length + (s.extract b s.size).size ≤ 140737488355328 := by omega
            have HL1 := Lib.hid hlen1
            have HNq := Lib.hid hNq
            clear hB hes hlen1 hcl hol2 hM2
            go_wp2_with fail
            refine (writeString_any N N _ _ _ HI.out HL1.out HNq.out).mono ?_
            rintro e w1 ⟨rfl, hu1, hb1, _⟩
            have HB1 := Lib.hid (below_seq2 HB.out hb1 hwN)
            have HN1 := Lib.hid (Nat.le_trans HNq.out hb1.size)
            have hu2 : IsB N N (Lib.byteCells ((stE s.data.toList es es.length).1 ++ s.data.toList.drop b)) w1 := by
              have e : Lib.byteCells ((stE s.data.toList es es.length).1 ++ s.data.toList.drop b) = Lib.byteCells (stE s.data.toList es es.length).1 ++ Lib.strCells (s.extract b s.size) := by
                simp only [Lib.byteCells, Lib.strCells, List.map_append]
                rw [ext_list, List.take_of_length_le (by rw [List.length_drop, size_list]; exact Nat.le_refl _)]
              rw [e]; exact Or.inr hu1
            have HU2 := Lib.hid hu2
            clear hu1 hb1 hu2
            go_wp2_with fail
            refine (Try.Builder_String_any N N _ _ HU2.out HN1.out).mono ?_
            rintro e w2 ⟨rfl, hb2⟩
            have HB2 := Lib.hid (below_seq2 HB1.out hb2 hwN)
            clear hb2
            go_wp2
            go_ret2
            exact ⟨ret_str (by rw [HR.out]), HB2.out⟩
end Go.Proofs.Ytbdeakodmhcgdaa
