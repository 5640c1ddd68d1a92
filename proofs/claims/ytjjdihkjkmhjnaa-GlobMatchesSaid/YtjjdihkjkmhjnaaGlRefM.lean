/- The reference's Match, Bounds, Reverse. -/
import Derived.Test.YtjjdihkjkmhjnaaGlMatch
namespace Go.Proofs.Ytjjdihkjkmhjnaa
set_option linter.unusedSimpArgs false
set_option linter.unusedVariables false
set_option maxRecDepth 100000
open Go.RowKit Go.Deep

set_option maxHeartbeats 2000000 in
theorem refMatch_at (p s : ByteArray) (b : Bool) (r : Int) (h : matchR p.data.toList s.data.toList = (b, r)) (w : World) :
    Calls Try.prog 23 #[.string p, .string s] w fun e w' => e = .returned (.tuple #[.bool b, intV r]) ∧ Below w.heap.size w w' := by
  unfold matchR at h
  obtain ⟨e0, he0⟩ : ∃ e0, chk p.data.toList = e0 := ⟨_, rfl⟩
  obtain ⟨e1, he1⟩ : ∃ e1, chkW s.data.toList = e1 := ⟨_, rfl⟩
  rw [he0, he1] at h
  have HCK := Lib.hid (refCheck_at p e0 he0 w)
  have HCW := Lib.hid (refCheckWord_at s e1 he1 w)
  by_cases h0 : e0 = 0
  · have hb0 : (e0 != 0) = false := by simpa using h0
    rw [if_neg (by simpa using h0)] at h
    by_cases h1 : e1 = 0
    · have hb1 : (e1 != 0) = false := by simpa using h1
      rw [if_neg (by simpa using h1)] at h
      simp only [Prod.mk.injEq] at h
      obtain ⟨hm, rfl⟩ := h
      obtain ⟨hp, l, hpl, hok, _, hl, hx⟩ := chk_ok (he0.trans h0)
      rw [hpl] at hm
      have hs : s.size ≤ 64 := by
        have := he1.trans h1
        unfold chkW at this
        rw [size_list] at this
        by_cases hh : 64 < s.size
        · rw [if_pos hh] at this; cases this
        · omega
      rw [size_list] at hp
      have HEL := Lib.hid (refElements_any p hp l hpl w)
      have HM := Lib.hid (And.intro hm (And.intro hok (And.intro hl hx)))
      clear hm hok hl hx hpl he0 he1 h0 h1
      go_enter Try.func23, Try.ntmps23
      go_wp2_with fail
      refine HCK.out.mono ?_
      rintro e w1 ⟨rfl, rfl⟩
      go_wp2_with fail
      refine HCW.out.mono ?_
      rintro e w1 ⟨rfl, rfl⟩
      go_wp2_with fail
      refine HEL.out.mono ?_
      rintro e w1 ⟨v, rfl, hv, h1⟩
      have HB1 := Lib.hid h1
      have HV1 := Lib.hid hv
      clear h1 hv
      go_wp2_with fail
      refine (refMatches_at l s v w1 HV1.out HM.out.2.1 hs HM.out.2.2.2 HM.out.2.2.1 b HM.out.1).mono ?_
      rintro e w2 ⟨rfl, h2⟩
      have HB2 := Lib.hid (below_seq HB1.out h2 HB1.out.size)
      clear h2
      go_wp2_with fail
      go_ret2
      exact ⟨rfl, HB2.out⟩
    · have hb1 : (e1 != 0) = true := by simpa using h1
      rw [if_pos (by simpa using h1)] at h
      simp only [Prod.mk.injEq] at h
      obtain ⟨rfl, rfl⟩ := h
      clear h0 h1 he0 he1
      go_enter Try.func23, Try.ntmps23
      go_wp2_with fail
      refine HCK.out.mono ?_
      rintro e w1 ⟨rfl, rfl⟩
      go_wp2_with fail
      refine HCW.out.mono ?_
      rintro e w1 ⟨rfl, rfl⟩
      go_wp2_with fail
      go_ret2
      exact ⟨rfl, Below.refl _ _⟩
  · have hb0 : (e0 != 0) = true := by simpa using h0
    rw [if_pos (by simpa using h0)] at h
    simp only [Prod.mk.injEq] at h
    obtain ⟨rfl, rfl⟩ := h
    clear h0 he0 he1
    go_enter Try.func23, Try.ntmps23
    go_wp2_with fail
    refine HCK.out.mono ?_
    rintro e w1 ⟨rfl, rfl⟩
    go_wp2_with fail
    go_ret2
    exact ⟨rfl, Below.refl _ _⟩
set_option maxHeartbeats 2000000 in
theorem refBounds_at (p : ByteArray) (a b r : Int) (h : boundsR p.data.toList = (a, b, r)) (w : World) :
    Calls Try.prog 16 #[.string p] w fun e w' => e = .returned (.tuple #[intV a, intV b, intV r]) ∧ Below w.heap.size w w' := by
  unfold boundsR at h
  obtain ⟨e0, he0⟩ : ∃ e0, chk p.data.toList = e0 := ⟨_, rfl⟩
  rw [he0] at h
  have HCK := Lib.hid (refCheck_at p e0 he0 w)
  by_cases h0 : e0 = 0
  · have hb0 : (e0 != 0) = false := by simpa using h0
    rw [if_neg (by simpa using h0)] at h
    obtain ⟨hp, l, hpl, hok, _, hl, hx⟩ := chk_ok (he0.trans h0)
    rw [hpl] at h
    simp only at h
    rw [size_list] at hp
    have HEL := Lib.hid (refElements_any p hp l hpl w)
    have HOK := Lib.hid hok
    have HH := Lib.hid h
    clear h hok hx hpl he0 h0
    go_enter Try.func16, Try.ntmps16
    go_wp2_with fail
    refine HCK.out.mono ?_
    rintro e w1 ⟨rfl, rfl⟩
    go_wp2_with fail
    refine HEL.out.mono ?_
    rintro e w1 ⟨v, rfl, hv, h1⟩
    obtain ⟨va, vc, rfl⟩ := hv.slice
    have HB1 := Lib.hid h1
    have HV1 := Lib.hid hv
    clear h1 hv
    go_wp2_with fail
    go_loopw [6, 7, 8] (fun v6 v7 v8 wr => ∃ k : Nat, k ≤ l.length ∧ v8 = .int .i64 k ∧ v6 = .int .i64 (leastN (l.take k)) ∧ v7 = .bool (starsB (l.take k)) ∧ w1 = wr) (fun _ _ v8 _ => l.length - (intOf v8).toNat)
    case atStart => exact ⟨0, Nat.zero_le _, rfl, rfl, rfl, by trivial⟩
    case round =>
      obtain ⟨k, hk, rfl, rfl, rfl, rfl⟩ := hrel
      have hle : leastN (l.take k) ≤ 64 := by
        have := List.length_filter_le (fun x : El => !x.isS) (l.take k)
        rw [List.length_take] at this
        unfold leastN; omega
      obtain ⟨ln, hln⟩ : ∃ ln, leastN (l.take k) = ln := ⟨_, rfl⟩
      obtain ⟨st, hst⟩ : ∃ st, starsB (l.take k) = st := ⟨_, rfl⟩
      rw [hln] at hle ⊢
      rw [hst]
      by_cases hlt : k < l.length
      · obtain ⟨bb, off, rfl, hbb, hcl⟩ := HV1.out.get hlt
        obtain ⟨x, hxe⟩ : ∃ x, l[k] = x := ⟨_, rfl⟩
        rw [hxe] at hcl
        have htk : l.take (k + 1) = l.take k ++ [x] := by rw [← hxe]; exact List.take_succ_eq_append_getElem hlt
        have hq := star_test (HOK.out x (by rw [← hxe]; exact List.getElem_mem hlt))
        have H1 := Lib.hid (show leastN (l.take (k + 1)) = ln + (if x.isS then 0 else 1) by rw [htk, leastN_snoc, hln])
        have H2 := Lib.hid (show starsB (l.take (k + 1)) = (st || x.isS) by rw [htk, starsB_snoc, hst])
        obtain ⟨q, hqe⟩ : ∃ q, x.isS = q := ⟨_, rfl⟩
        rw [hqe] at hq H1 H2
        clear htk hxe hln hst hqe
        cases q with
        | true =>
          go_wp2_with fail
          refine ⟨⟨k + 1, by omega, by go_num, by rw [H1.out]; rfl, by rw [H2.out]; simp, by trivial⟩, ?_⟩
          simp [intOf]; omega
        | false =>
          go_wp2_with fail
          refine ⟨⟨k + 1, by omega, by go_num, by rw [H1.out]; go_num, by rw [H2.out]; simp, by trivial⟩, ?_⟩
          simp [intOf]; omega
      · obtain rfl : k = l.length := by omega
        rw [List.take_length] at hln hst
        have hh := HH.out
        rw [hst, hln] at hh
        clear hln hst
        cases st with
        | true =>
          simp only [if_pos, Prod.mk.injEq] at hh
          obtain ⟨rfl, rfl, rfl⟩ := hh
          go_wp2_with fail
          refine bodyPost_ret (v := .tuple #[intV ln, intV (-1), intV 0]) (by simp [results, Try.results16, go_sem]) rfl ⟨rfl, HB1.out⟩
        | false =>
          rw [if_neg (by decide)] at hh
          simp only [Prod.mk.injEq] at hh
          obtain ⟨rfl, rfl, rfl⟩ := hh
          go_wp2_with fail
          refine bodyPost_ret (v := .tuple #[intV ln, intV ln, intV 0]) (by simp [results, Try.results16, go_sem]) rfl ⟨rfl, HB1.out⟩
  · have hb0 : (e0 != 0) = true := by simpa using h0
    rw [if_pos (by simpa using h0)] at h
    simp only [Prod.mk.injEq] at h
    obtain ⟨rfl, rfl, rfl⟩ := h
    clear h0 he0
    go_enter Try.func16, Try.ntmps16
    go_wp2_with fail
    refine HCK.out.mono ?_
    rintro e w1 ⟨rfl, rfl⟩
    go_wp2_with fail
    refine bodyPost_ret (v := .tuple #[intV 0, intV 0, intV 1]) (by simp [results, Try.results16, go_sem]) rfl ⟨rfl, Below.refl _ _⟩
set_option maxHeartbeats 2000000 in
theorem refReverse_at (p t : ByteArray) (r : Int) (h : revR p.data.toList = (t.data.toList, r)) (w : World) :
    Calls Try.prog 18 #[.string p] w fun e w' => e = .returned (.tuple #[.string t, intV r]) ∧ Below w.heap.size w w' := by
  unfold revR at h
  obtain ⟨e0, he0⟩ : ∃ e0, chk p.data.toList = e0 := ⟨_, rfl⟩
  rw [he0] at h
  have HCK := Lib.hid (refCheck_at p e0 he0 w)
  by_cases h0 : e0 = 0
  · have hb0 : (e0 != 0) = false := by simpa using h0
    rw [if_neg (by simpa using h0)] at h
    obtain ⟨hp, l, hpl, hok, htx, hl, hx⟩ := chk_ok (he0.trans h0)
    rw [hpl] at h
    simp only [Prod.mk.injEq] at h
    obtain ⟨ht, rfl⟩ := h
    rw [size_list] at hp
    have HEL := Lib.hid (refElements_any p hp l hpl w)
    have HT := Lib.hid ht
    have hbig : ∀ k, (txts (l.take k).reverse).length ≤ 64 := fun k => by
      have e : ∀ m : List El, (txts m.reverse).length = (txts m).length := fun m => by
        induction m with
        | nil => rfl
        | cons y m ih => rw [List.reverse_cons, txts_append, List.length_append, ih, txts_cons, List.length_append, txts_cons, txts_nil, List.length_append, List.length_nil]; omega
      have h2 : txts (l.take k) ++ txts (l.drop k) = txts l := by rw [← txts_append, List.take_append_drop]
      have h3 := congrArg List.length h2
      rw [List.length_append, htx, size_list] at h3
      rw [e]; omega
    have HBIG := Lib.hid hbig
    have HX := Lib.hid hx
    clear ht hok hx hpl he0 h0 hbig htx
    go_enter Try.func18, Try.ntmps18
    go_wp2_with fail
    refine HCK.out.mono ?_
    rintro e w1 ⟨rfl, rfl⟩
    go_wp2_with fail
    refine HEL.out.mono ?_
    rintro e w1 ⟨v, rfl, hv, h1⟩
    obtain ⟨va, vc, rfl⟩ := hv.slice
    have HB1 := Lib.hid h1
    have HV1 := Lib.hid hv
    clear h1 hv
    go_wp2_with fail
    go_loopw [5, 6] (fun v5 v6 wr => ∃ (k : Nat) (o : ByteArray), k ≤ l.length ∧ v6 = .int .i64 k ∧ v5 = .string o ∧ Hid (o.data.toList = txts (l.take k).reverse) ∧ w1 = wr) (fun _ v6 _ => l.length - (intOf v6).toNat)
    case atStart => exact ⟨0, ⟨#[]⟩, Nat.zero_le _, rfl, rfl, Lib.hid rfl, by trivial⟩
    case round =>
      obtain ⟨k, o, hk, rfl, rfl, HO, rfl⟩ := hrel
      by_cases hlt : k < l.length
      · obtain ⟨bb, off, rfl, hbb, hcl⟩ := HV1.out.get hlt
        obtain ⟨x, hxe⟩ : ∃ x, l[k] = x := ⟨_, rfl⟩
        rw [hxe] at hcl
        have htk : l.take (k + 1) = l.take k ++ [x] := by rw [← hxe]; exact List.take_succ_eq_append_getElem hlt
        have hos : o.size ≤ 64 := by rw [← size_list, HO.out]; exact HBIG.out k
        have hxs : (elB x).size ≤ 64 := by rw [elB_size]; exact HX.out x (by rw [← hxe]; exact List.getElem_mem hlt)
        have HN := Lib.hid (show (elB x ++ o).data.toList = txts (l.take (k + 1)).reverse by
          have e1 : (elB x ++ o).data.toList = (elB x).data.toList ++ o.data.toList := by simp
          rw [e1, htk, List.reverse_append, List.reverse_singleton, List.singleton_append, txts_cons, HO.out, elB_list])
        have hadd : ∀ w, (Op.stringOp .add (elB x) o).run Try.prog w = .ok (.string (elB x ++ o)) w := fun w => run_string_add_sum w _ _ (by omega)
        clear htk hxe
        go_wp2_with fail
        refine ⟨⟨k + 1, _, by omega, by go_num, rfl, HN, by trivial⟩, ?_⟩
        simp [intOf]; omega
      · obtain rfl : k = l.length := by omega
        have hot : o = t := ba_of (by rw [HO.out, List.take_length, HT.out])
        subst hot
        go_wp2_with fail
        go_ret2
        exact ⟨rfl, HB1.out⟩
  · have hb0 : (e0 != 0) = true := by simpa using h0
    rw [if_pos (by simpa using h0)] at h
    simp only [Prod.mk.injEq] at h
    obtain ⟨ht, rfl⟩ := h
    obtain rfl : t = ⟨#[]⟩ := ba_of (by rw [← ht])
    clear h0 he0 ht
    go_enter Try.func18, Try.ntmps18
    go_wp2_with fail
    refine HCK.out.mono ?_
    rintro e w1 ⟨rfl, rfl⟩
    go_wp2_with fail
    go_ret2
    exact ⟨rfl, Below.refl _ _⟩
end Go.Proofs.Ytjjdihkjkmhjnaa
