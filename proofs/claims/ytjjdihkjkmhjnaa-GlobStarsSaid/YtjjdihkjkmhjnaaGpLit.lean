/- Literal of the program. -/
import Derived.Test.YtjjdihkjkmhjnaaGpBuild
namespace Go.Proofs.Ytjjdihkjkmhjnaa
set_option linter.unusedSimpArgs false
set_option linter.unusedVariables false
set_option maxRecDepth 100000
open Go.RowKit Go.Deep

theorem byteCells_snoc (l : List UInt8) (c : UInt8) : Lib.byteCells (l ++ [c]) = Lib.byteCells l ++ [.int .u8 c.toNat] := by simp [Lib.byteCells]
theorem pat_oks {s : ByteArray} (h : chk s.data.toList = 0) : oks (par s.data.toList).2 := by
  obtain ⟨_, l, hp, ho, _⟩ := chk_ok h
  rw [hp]; exact ho
set_option maxHeartbeats 4000000 in
theorem literal_at (p t : ByteArray) (b : Bool) (r : Int) (h : litR p.data.toList = (t.data.toList, b, r)) (w : World) :
    Calls Try.prog 13 #[.string p] w fun e w' => e = .returned (.tuple #[.string t, .bool b, intV r]) ∧ Below w.heap.size w w' := by
  unfold litR at h
  by_cases hp : chk p.data.toList = 0
  · rw [if_neg (by rw [hp]; decide)] at h
    have HEL := Lib.hid (elements_good p _ hp rfl w)
    have HLE := Lib.hid (pat_len hp)
    have HOK := Lib.hid (pat_oks hp)
    generalize hl : (par p.data.toList).2 = l at *
    have HH := Lib.hid h
    have HNO := Lib.hid (show ∀ x ∈ l, x.lit = none → t = ⟨#[]⟩ ∧ b = false ∧ r = 0 from fun x hx hn => by
      rw [lits_none hx hn] at h
      simp only [Prod.mk.injEq] at h
      exact ⟨ba_of (by rw [← h.1]), h.2.1.symm, h.2.2.symm⟩)
    clear hl hp h
    go_enter Try.func13, Try.ntmps13
    go_wp2_with fail
    refine HEL.out.mono ?_
    rintro e w1 ⟨v, rfl, he1, h1⟩
    obtain ⟨va, vc, rfl⟩ := he1.slice
    have HE1 := Lib.hid he1
    have HB1 := Lib.hid h1
    clear he1 h1
    have HNB := Lib.hid (isB_new w1)
    have HBA := Lib.hid (below_box0 w1 (.cells #[.pointer none, .slice none 0 0] 51))
    go_wp2_with fail
    go_loopw [20] (fun v20 wr => ∃ (k : Nat) (o : List UInt8), k ≤ l.length ∧ v20 = .int .i64 k ∧ o.length = k ∧ Hid (lits (l.take k) = some o) ∧ IsB w1.heap.size w1.heap.size (Lib.byteCells o) wr ∧ Below w1.heap.size w1 wr) (fun v20 _ => l.length - (intOf v20).toNat)
    case atStart => exact ⟨0, [], Nat.zero_le _, rfl, rfl, Lib.hid rfl, HNB.out, HBA.out⟩
    case round =>
      obtain ⟨k, o, hk, rfl, hok, HO, hib, hB⟩ := hrel
      obtain ⟨wk, rfl⟩ : ∃ x, x = wr := ⟨_, rfl⟩
      have HI := Lib.hid hib
      have HB := Lib.hid hB
      have HOL := Lib.hid hok
      have hl64 := HLE.out
      clear hib hB hok
      by_cases hlt : k < l.length
      · obtain ⟨bb, off, rfl, hbb, hrg⟩ := (HE1.out.below HB.out).get hlt
        obtain ⟨x, hxe⟩ : ∃ x, l[k] = x := ⟨_, rfl⟩
        rw [hxe] at hrg
        have hxm : x ∈ l := by rw [← hxe]; exact List.getElem_mem hlt
        have htk : l.take (k + 1) = l.take k ++ [x] := by rw [← hxe]; exact List.take_succ_eq_append_getElem hlt
        have HTK := Lib.hid htk
        have HNX := Lib.hid (HNO.out x hxm)
        have HOX := Lib.hid (HOK.out x hxm)
        have HRG := Lib.hid hrg
        clear htk hxe hxm hrg
        cases hx : x.lit with
        | none =>
          obtain ⟨rfl, rfl, rfl⟩ := HNX.out hx
          have HON := Lib.hid (only_none bb (off + k * 258) x wk HRG.out HOX.out hx)
          clear hx
          go_wp2_with fail
          refine HON.out.mono ?_
          rintro e w2 ⟨m, rfl, rfl⟩
          go_wp2_with fail
          refine bodyPost_ret (v := .tuple #[.string ⟨#[]⟩, .bool false, intV 0]) (by simp [results, Try.results13, go_sem]) rfl ⟨rfl, HB1.out.trans (HB.out.mono HB1.out.size)⟩
        | some c =>
          have HON := Lib.hid (only_some bb (off + k * 258) x wk HRG.out c hx)
          have HX := Lib.hid hx
          have HWB := Lib.hid (writeByte_any w1.heap.size w1.heap.size (Lib.byteCells o) c wk HI.out (by rw [Lib.byteCells_length, HOL.out]; omega) HB.out.size)
          clear hx
          go_wp2_with fail
          refine HON.out.mono ?_
          rintro e w2 ⟨rfl, rfl⟩
          go_wp2_with fail
          refine HWB.out.mono ?_
          rintro e w3 ⟨rfl, h3, h4⟩
          have HI3 := Lib.hid h3
          have HB3 := Lib.hid (HB.out.trans h4)
          clear h3 h4
          go_wp2_with fail
          refine ⟨⟨k + 1, o ++ [c], by omega, by go_num, by rw [List.length_append, List.length_singleton, HOL.out], Lib.hid (by rw [HTK.out, lits_snoc HX.out HO.out]), ?_, HB3.out⟩, by simp [intOf]; omega⟩
          rw [byteCells_snoc]
          exact .inr HI3.out
      · obtain rfl : k = l.length := by omega
        have hh := HH.out
        have ho := HO.out
        rw [List.take_length] at ho
        rw [ho] at hh
        simp only [Prod.mk.injEq] at hh
        obtain ⟨ht, rfl, rfl⟩ := hh
        have hto : (⟨o.toArray⟩ : ByteArray) = t := ba_of (by rw [← ht])
        have HBS := Lib.hid (Try.Builder_String_any w1.heap.size w1.heap.size o wk HI.out HB.out.size)
        rw [hto] at HBS
        clear ho ht hto
        go_wp2_with fail
        refine HBS.out.mono ?_
        rintro e w3 ⟨rfl, h4⟩
        have HB3 := Lib.hid (HB1.out.trans ((HB.out.trans h4).mono HB1.out.size))
        clear h4
        go_wp2_with fail
        refine bodyPost_ret (v := .tuple #[.string t, .bool true, intV 0]) (by simp [results, Try.results13, go_sem]) rfl ⟨rfl, HB3.out⟩
  · rw [if_pos hp] at h
    simp only [Prod.mk.injEq] at h
    obtain ⟨ht, rfl, rfl⟩ := h
    obtain rfl : t = ⟨#[]⟩ := ba_of (by rw [← ht])
    have HEL := Lib.hid (elements_bad p hp w)
    clear hp ht
    go_enter Try.func13, Try.ntmps13
    go_wp2_with fail
    refine HEL.out.mono ?_
    rintro e w1 ⟨v, rfl, h1⟩
    have HB1 := Lib.hid h1
    clear h1
    go_wp2_with fail
    refine bodyPost_ret (v := .tuple #[.string ⟨#[]⟩, .bool false, intV 1]) (by simp [results, Try.results13, go_sem]) rfl ⟨rfl, HB1.out⟩
end Go.Proofs.Ytjjdihkjkmhjnaa
