/- The reference's Literal. -/
import Derived.Test.YtjjdihkjkmhjnaaGlRefM
namespace Go.Proofs.Ytjjdihkjkmhjnaa
set_option linter.unusedSimpArgs false
set_option linter.unusedVariables false
set_option maxRecDepth 100000
open Go.RowKit Go.Deep

set_option maxHeartbeats 4000000 in
theorem refLiteral_at (p t : ByteArray) (b : Bool) (r : Int) (h : litR p.data.toList = (t.data.toList, b, r)) (w : World) :
    Calls Try.prog 14 #[.string p] w fun e w' => e = .returned (.tuple #[.string t, .bool b, intV r]) ∧ Below w.heap.size w w' := by
  unfold litR at h
  obtain ⟨e0, he0⟩ : ∃ e0, chk p.data.toList = e0 := ⟨_, rfl⟩
  rw [he0] at h
  have HCK := Lib.hid (refCheck_at p e0 he0 w)
  by_cases h0 : e0 = 0
  · have hb0 : (e0 != 0) = false := by simpa using h0
    rw [if_neg (by simpa using h0)] at h
    obtain ⟨hp, l, hpl, hok, htx, hl, hx⟩ := chk_ok (he0.trans h0)
    rw [hpl] at h
    simp only at h
    rw [size_list] at hp
    have HEL := Lib.hid (refElements_any p hp l hpl w)
    have HH := Lib.hid h
    have HX := Lib.hid hx
    have HOK := Lib.hid hok
    have HNO := Lib.hid (show ∀ x ∈ l, x.lit = none → t = ⟨#[]⟩ ∧ b = false ∧ r = 0 from fun x hx hn => by
      rw [lits_none hx hn] at h
      simp only [Prod.mk.injEq] at h
      exact ⟨ba_of (by rw [← h.1]), h.2.1.symm, h.2.2.symm⟩)
    clear h hok hx hpl he0 h0 htx
    go_enter Try.func14, Try.ntmps14
    go_wp2_with fail
    refine HCK.out.mono ?_
    rintro e w1 ⟨rfl, rfl⟩
    go_wp2_with fail
    refine HEL.out.mono ?_
    rintro e w1 ⟨v, rfl, hv, h1⟩
    obtain ⟨va, vc, rfl⟩ := hv.slice
    have HB1 := Lib.hid h1
    have HV1 := Lib.hid hv
    clear h1 hv
    go_wp2_with fail
    go_loopw [6, 7] (fun v6 v7 wr => ∃ (k : Nat) (o : ByteArray), k ≤ l.length ∧ v7 = .int .i64 k ∧ v6 = .string o ∧ o.size ≤ k ∧ Hid (lits (l.take k) = some o.data.toList) ∧ w1 = wr) (fun _ v7 _ => l.length - (intOf v7).toNat)
    case atStart => exact ⟨0, ⟨#[]⟩, Nat.zero_le _, rfl, rfl, Nat.le_refl _, Lib.hid rfl, by trivial⟩
    case round =>
      obtain ⟨k, o, hk, rfl, rfl, hos, HO, rfl⟩ := hrel
      by_cases hlt : k < l.length
      · obtain ⟨bb, off, rfl, hbb, hcl⟩ := HV1.out.get hlt
        obtain ⟨x, hxe⟩ : ∃ x, l[k] = x := ⟨_, rfl⟩
        rw [hxe] at hcl
        have hxm : x ∈ l := by rw [← hxe]; exact List.getElem_mem hlt
        have htk : l.take (k + 1) = l.take k ++ [x] := by rw [← hxe]; exact List.take_succ_eq_append_getElem hlt
        obtain ⟨s, hs⟩ : ∃ s, elB x = s := ⟨_, rfl⟩
        rw [hs] at hcl
        have hl' : s.data.toList = x.txt := by rw [← hs, elB_list]
        have hn : s.size = x.txt.length := by rw [← size_list, hl']
        have hs0 : 0 < s.size := by rw [hn]; exact txt_pos x
        have hs1 : (1 : Int) ≤ s.size := by omega
        have hs64 : s.size ≤ 64 := by rw [hn]; exact HX.out x hxm
        obtain ⟨a, ha⟩ : ∃ a, s[0] = a := ⟨_, rfl⟩
        have hat : x.txt[0]'(txt_pos x) = a := by
          rw [← ha, ← ba_get s 0 hs0]
          congr 1; exact hl'.symm
        have he1 : s.extract 0 1 = bOne a := by rw [ext_one s 0 hs0, ha]
        have hq1 := bOne_lit a 63
        have hq2 := bOne_lit a 42
        have hq3 := bOne_lit a 91
        have HTK := Lib.hid htk
        have HL' := Lib.hid hl'
        have HOKX := Lib.hid (HOK.out x hxm)
        have HNX := Lib.hid (HNO.out x hxm)
        have HN := Lib.hid hn
        clear hs hxe htk hl' ha hn hxm
        cases x with
        | any =>
          have hat2 : a = 63 := hat.symm
          subst hat2
          obtain ⟨rfl, rfl, rfl⟩ := HNX.out rfl
          clear hat
          go_wp2_with fail
          refine bodyPost_ret (v := .tuple #[.string ⟨#[]⟩, .bool false, intV 0]) (by simp [results, Try.results14, go_sem]) rfl ⟨rfl, HB1.out⟩
        | star =>
          have hat2 : a = 42 := hat.symm
          subst hat2
          obtain ⟨rfl, rfl, rfl⟩ := HNX.out rfl
          clear hat
          go_wp2_with fail
          refine bodyPost_ret (v := .tuple #[.string ⟨#[]⟩, .bool false, intV 0]) (by simp [results, Try.results14, go_sem]) rfl ⟨rfl, HB1.out⟩
        | one c =>
          have hac : c = a := hat
          subst hac
          obtain ⟨n1, n2, n3⟩ := ok_one HOKX.out
          rw [beq_false_of_ne n2] at hq1
          rw [beq_false_of_ne n3] at hq2
          rw [beq_false_of_ne n1] at hq3
          have hbs : (bOne c).size = 1 := rfl
          have hadd : ∀ w, (Op.stringOp .add o (bOne c)).run Try.prog w = .ok (.string (o ++ bOne c)) w := fun w => run_string_add_sum w _ _ (by omega)
          have HS := Lib.hid (show lits (l.take (k + 1)) = some (o ++ bOne c).data.toList by
            rw [HTK.out, lits_snoc (c := c) rfl HO.out, ← bOne_list c]
            simp)
          have HSZ := Lib.hid (show (o ++ bOne c).size ≤ k + 1 by rw [ByteArray.size_append, hbs]; omega)
          clear hat n1 n2 n3 hbs
          go_wp2_with fail
          refine ⟨⟨k + 1, _, by omega, by go_num, rfl, HSZ.out, HS, by trivial⟩, ?_⟩
          simp [intOf]; omega
        | cls cs =>
          have hac : (91 : UInt8) = a := hat
          subst hac
          cases cs with
          | nil => exact absurd HOKX.out (by decide)
          | cons c0 cr =>
            have hsl : s.size = cr.length + 3 := by rw [HN.out]; simp [El.txt]
            have get : ∀ (j : Nat) (h : j < (c0 :: cr).length) (h' : j + 1 < s.size), s[j + 1] = (c0 :: cr)[j] := fun j h h' => by
              rw [← ba_get s (j + 1) h']
              have : s.data.toList = 91 :: ((c0 :: cr) ++ [93]) := HL'.out
              simp only [this]
              rw [List.getElem_cons_succ, List.getElem_append_left h]
            have h1s : 1 < s.size := by omega
            have g1 : s[1] = c0 := get 0 (by simp) h1s
            have he2 : s.extract 1 2 = bOne c0 := by rw [ext_one s 1 h1s, g1]
            have h2s : (2 : Int) ≤ s.size := by omega
            have HG := Lib.hid get
            have HSL := Lib.hid hsl
            clear get g1 hsl hat
            go_wp2_with fail
            go_loopw [9] (fun i wr => ∃ j : Nat, i = .int .i64 j ∧ 1 ≤ j ∧ j + 1 ≤ s.size ∧ Hid (∀ (m : Nat) (h : m < (c0 :: cr).length), m + 1 < j → (c0 :: cr)[m] = c0) ∧ w1 = wr) (fun i _ => s.size - (intOf i).toNat)
            case atStart => exact ⟨1, rfl, Nat.le_refl _, by omega, Lib.hid (fun m h h2 => by omega), by trivial⟩
            case round =>
              obtain ⟨j, rfl, hj1, hj, HA, rfl⟩ := hrel
              by_cases hjs : j + 1 < s.size
              · have hjl : j < s.size := by omega
                have hjc : j - 1 < (c0 :: cr).length := by have := HSL.out; simp; omega
                have hgj := HG.out (j - 1) hjc (by omega)
                simp only [Nat.sub_add_cancel hj1] at hgj
                have hej : s.extract j (j + 1) = bOne s[j] := ext_one s j hjl
                obtain ⟨q, hq⟩ : ∃ q, (s[j] == c0) = q := ⟨_, rfl⟩
                have hb := bOne_beq s[j] c0
                rw [hq] at hb
                have hbn : ((bOne s[j]).toList != (bOne c0).toList) = !q := by rw [bne, hb]
                have hj0 : (0 : Int) ≤ j := by omega
                have hj2 : (j : Int) ≤ j + 1 := by omega
                have hj3 : (j : Int) + 1 ≤ s.size := by omega
                have HQ := Lib.hid hq
                have HGJ := Lib.hid hgj
                clear hq hgj
                cases q with
                | true =>
                  go_wp2_with fail
                  refine ⟨⟨j + 1, by go_num, by omega, by omega, Lib.hid (fun m h h2 => ?_), by trivial⟩, ?_⟩
                  · rcases Nat.lt_or_ge (m + 1) j with h3 | h3
                    · exact HA.out m h h3
                    · obtain rfl : m = j - 1 := by omega
                      rw [← HGJ.out]; simpa using HQ.out
                  · simp [intOf]; omega
                | false =>
                  obtain ⟨rfl, rfl, rfl⟩ := HNX.out (by
                    show (if cr.all (· == c0) then some c0 else none) = none
                    rw [if_neg]
                    intro hall
                    have hne : (c0 :: cr)[j - 1] ≠ c0 := by rw [← HGJ.out]; simpa using HQ.out
                    have hmem : ∀ y ∈ c0 :: cr, y = c0 := fun y hy => by
                      rcases List.mem_cons.1 hy with rfl | hy
                      · rfl
                      · simpa using List.all_eq_true.1 hall y hy
                    exact hne (hmem _ (List.getElem_mem hjc)))
                  go_wp2_with fail
                  refine bodyPost_ret (v := .tuple #[.string ⟨#[]⟩, .bool false, intV 0]) (by simp [results, Try.results14, go_sem]) rfl ⟨rfl, HB1.out⟩
              · have hlx : (El.cls (c0 :: cr)).lit = some c0 := by
                  show (if cr.all (· == c0) then some c0 else none) = some c0
                  rw [if_pos]
                  rw [List.all_eq_true]
                  intro y hy
                  obtain ⟨m, hm, rfl⟩ := List.getElem_of_mem hy
                  have := HA.out (m + 1) (by simp; omega) (by have := HSL.out; omega)
                  simpa using this
                have hbs : (bOne c0).size = 1 := rfl
                have hadd : ∀ w, (Op.stringOp .add o (bOne c0)).run Try.prog w = .ok (.string (o ++ bOne c0)) w := fun w => run_string_add_sum w _ _ (by omega)
                have HS := Lib.hid (show lits (l.take (k + 1)) = some (o ++ bOne c0).data.toList by
                  rw [HTK.out, lits_snoc (c := c0) hlx HO.out, ← bOne_list c0]
                  simp)
                have HSZ := Lib.hid (show (o ++ bOne c0).size ≤ k + 1 by rw [ByteArray.size_append, hbs]; omega)
                clear hlx hbs
                go_wp2_with fail
                refine ⟨⟨k + 1, _, by omega, by go_num, rfl, HSZ.out, HS, by trivial⟩, ?_⟩
                simp [intOf]; omega
      · obtain rfl : k = l.length := by omega
        have hh := HH.out
        have ho := HO.out
        rw [List.take_length] at ho
        rw [ho] at hh
        simp only [Prod.mk.injEq] at hh
        obtain ⟨ht, rfl, rfl⟩ := hh
        obtain rfl := ba_of ht
        clear ho ht
        go_wp2_with fail
        refine bodyPost_ret (v := .tuple #[.string o, .bool true, intV 0]) (by simp [results, Try.results14, go_sem]) rfl ⟨rfl, HB1.out⟩
  · have hb0 : (e0 != 0) = true := by simpa using h0
    rw [if_pos (by simpa using h0)] at h
    simp only [Prod.mk.injEq] at h
    obtain ⟨ht, rfl, rfl⟩ := h
    obtain rfl : t = ⟨#[]⟩ := ba_of (by rw [← ht])
    clear h0 he0 ht
    go_enter Try.func14, Try.ntmps14
    go_wp2_with fail
    refine HCK.out.mono ?_
    rintro e w1 ⟨rfl, rfl⟩
    go_wp2_with fail
    refine bodyPost_ret (v := .tuple #[.string ⟨#[]⟩, .bool false, intV 1]) (by simp [results, Try.results14, go_sem]) rfl ⟨rfl, Below.refl _ _⟩
end Go.Proofs.Ytjjdihkjkmhjnaa
