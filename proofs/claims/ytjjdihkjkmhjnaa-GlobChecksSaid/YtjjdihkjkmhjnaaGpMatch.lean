/- matches, checkString, Match, Filter of the program. -/
import Derived.Test.YtjjdihkjkmhjnaaGpPass
import Derived.Test.YtjjdihkjkmhjnaaGlHelp
namespace Go.Proofs.Ytjjdihkjkmhjnaa
set_option linter.unusedSimpArgs false
set_option linter.unusedVariables false
set_option maxRecDepth 100000
open Go.RowKit Go.Deep

set_option maxHeartbeats 2000000 in
theorem matches_at (l : List El) (v : Value) (s : ByteArray) (w : World) (hv : EAt w v l) (hl : l.length ≤ 64) (hs : s.size ≤ 64) (r : Bool) (hr : matB l s.data.toList = r) :
    Calls Try.prog 45 #[v, .string s] w fun e w' => e = .returned (.bool r) ∧ Below w.heap.size w w' := by
  have hz := (zero_of_info info_pl).1
  have HV := Lib.hid hv
  have HR := Lib.hid hr
  obtain ⟨va, vc, rfl⟩ := hv.slice
  clear hv hr
  go_enter Try.func45, Try.ntmps45
  go_wp2_with fail
  refine (with_at 0 0 0 (by decide) (by decide) (by decide) w).mono ?_
  rintro e w1 ⟨a1, b1, rfl, g1, g2, g3, g4⟩
  have HB1 := Lib.hid g4
  have HPS := Lib.hid (passStars_any l (.slice va l.length vc) a1 b1 w1 (HV.out.below g4) hl g1 g2)
  have HS1 := Lib.hid g3
  clear g1 g2 g3 g4
  go_wp2_with fail
  refine HPS.out.mono ?_
  rintro e w2 ⟨a2, b2, rfl, g1, g2, g3, g4⟩
  have HB2 := Lib.hid (HB1.out.trans (g4.mono HB1.out.size))
  have HG := Lib.hid (show a2 < two64 ∧ b2 < two64 ∧ ∀ j, j ≤ l.length → hasB a2 b2 j = at1 l [] j from ⟨g1, g2, fun j hj => by
    rw [g3 j hj]
    exact close_nil l (fun i _ => by rw [HS1.out, hasB_zero, Bool.false_or]) j hj⟩)
  clear g1 g2 g3 g4
  have HN2 := Lib.hid (heap_alloc_new w2 (.cells #[uV 0, uV 0] 88))
  have HBA := Lib.hid (below_box0 w2 (.cells #[uV 0, uV 0] 88))
  obtain ⟨B, hB⟩ : ∃ B, w2.heap.size = B := ⟨_, rfl⟩
  have HBE := Lib.hid hB
  go_wp2_with (refine wpList_store_into rfl 88 (.tmp 5) (.tmp 10) rfl w2.heap.size #[uV a2, uV b2] (by rw [HBE.out]; rfl) rfl 88 #[uV 0, uV 0] HN2.out (size_pl _ _) rfl (one_pl _ _) ?_; intro W3 m1 m2 m3; have HP3 := Lib.hid (show PB W3 w2.heap.size a2 b2 from m1); have HB3 := Lib.hid (HB2.out.trans ((below_seq HBA.out (m3 w2.heap.size (Nat.le_refl _)) (Nat.le_refl _)).mono HB2.out.size)); clear m1 m2 m3)
  have HBlt := Lib.hid (show w.heap.size ≤ B from by rw [← hB]; exact HB2.out.size)
  rw [hB] at HP3
  clear hB
  go_loopw [13] (fun v13 wr => ∃ (k a b : Nat), k ≤ s.size ∧ v13 = .int .i64 k ∧ Hid (a < two64 ∧ b < two64 ∧ ∀ j, j ≤ l.length → hasB a b j = at1 l (s.data.toList.take k) j) ∧ PB wr B a b ∧ Below w.heap.size w wr) (fun v13 _ => s.size - (intOf v13).toNat)
  case atStart => exact ⟨0, a2, b2, Nat.zero_le _, rfl, HG, HP3.out, HB3.out⟩
  case round =>
    obtain ⟨k, a, b, hk, rfl, HI, hp, hB⟩ := hrel
    obtain ⟨wk, rfl⟩ : ∃ x, x = wr := ⟨_, rfl⟩
    have HP := Lib.hid hp
    have HB := Lib.hid hB
    clear hp hB
    have c0 := HP.out.c0
    have c1 := HP.out.c1
    by_cases hlt : k < s.size
    · obtain ⟨c, hc⟩ : ∃ c, s[k] = c := ⟨_, rfl⟩
      have htk : s.data.toList.take (k + 1) = s.data.toList.take k ++ [c] := by rw [List.take_succ_eq_append_getElem (by rw [size_list]; exact hlt), ba_get s k hlt, hc]
      have HTK := Lib.hid htk
      have hk0 : (0 : Int) ≤ k := by omega
      have hk1 : (k : Int) < s.size := by omega
      clear htk
      have HBD := Lib.hid HB.out.drew
      have HPB := Lib.hid (passByte_any l (.slice va l.length vc) a b c wk.drew (HV.out.below HBD.out) hl HI.out.1 HI.out.2.1)
      go_upto_region 5 with fail
      have HS0 := Lib.hid (show wk.drew.cell? ⟨B, 0, none⟩ = some (uV a) ∧ wk.drew.cell? ⟨B, 1, none⟩ = some (uV b) from ⟨c0, c1⟩)
      refine wp_region_noPanic ?_
      refine wp_region_any (by kernel_rfl) (wpAny_of_k (S := fun w' => w'.cell? ⟨B, 0, none⟩ = some (uV a) ∧ w'.cell? ⟨B, 1, none⟩ = some (uV b)) (S' := fun _ => True) (k := 6) _ _ _ _ ?_)
      change wpAnyK _ _ _ _ _ _ _ 9 _ _ wk.drew
      refine wpAnyK_takeD (i := 0) (v := .slice va l.length vc) (some 16) rfl rfl (by kernel_rfl) (by kernel_rfl) (by kernel_rfl) (by decide) (fun _ _ _ h => h) (Or.inl ⟨by rfl, fun w' hw' => ?_⟩) (fun _ => HS0.out) (trivial) ?_
      · go_simp
      (try simp only [Act.put, List.setIfInBounds_toArray, List.set_cons_zero, List.set_cons_succ])
      refine wpAnyK_takeD (i := 1) (v := .slice va l.length vc) (some 17) rfl rfl (by kernel_rfl) (by kernel_rfl) (by kernel_rfl) (by decide) (fun _ _ _ h => h) (Or.inl ⟨by rfl, fun w' hw' => ?_⟩) (fun _ => HS0.out) (trivial) ?_
      · go_simp
      (try simp only [Act.put, List.setIfInBounds_toArray, List.set_cons_zero, List.set_cons_succ])
      refine wpAnyK_takeL (i := 2) (v := .agg #[uV a, uV b]) (some 18) rfl rfl rfl (by kernel_rfl) (by kernel_rfl) (by kernel_rfl) (by kernel_rfl) (by kernel_rfl) (by decide) (fun _ _ _ h => h) (Or.inl ⟨by rfl, fun w' hw' => ?_⟩) (HS0.out) (trivial) ?_
      · obtain ⟨hw1, hw2⟩ := hw'; go_simp
      (try simp only [Act.put, List.setIfInBounds_toArray, List.set_cons_zero, List.set_cons_succ])
      refine wpAnyK_takeD (i := 3) (v := .string s) (some 19) rfl rfl (by kernel_rfl) (by kernel_rfl) (by kernel_rfl) (by decide) (fun _ _ _ h => h) (Or.inl ⟨by rfl, fun w' hw' => ?_⟩) (fun _ => HS0.out) (trivial) ?_
      · go_simp
      (try simp only [Act.put, List.setIfInBounds_toArray, List.set_cons_zero, List.set_cons_succ])
      refine wpAnyK_takeD (i := 4) (v := .int .i64 k) (some 20) rfl rfl (by kernel_rfl) (by kernel_rfl) (by kernel_rfl) (by decide) (fun _ _ _ h => h) (Or.inl ⟨by rfl, fun w' hw' => ?_⟩) (fun _ => HS0.out) (trivial) ?_
      · go_simp
      (try simp only [Act.put, List.setIfInBounds_toArray, List.set_cons_zero, List.set_cons_succ])
      refine wpAnyK_takeD (i := 5) (v := .int .u8 c.toNat) (some 21) rfl rfl (by kernel_rfl) (by kernel_rfl) (by kernel_rfl) (by decide) (fun _ _ _ h => h) (Or.inl ⟨by rfl, fun w' hw' => ?_⟩) (fun _ => HS0.out) (trivial) ?_
      · go_simp
      (try simp only [Act.put, List.setIfInBounds_toArray, List.set_cons_zero, List.set_cons_succ])
      refine wpAnyK_all (rs := [6]) (by kernel_rfl) (by simp) ?_
      intro i' hi'
      obtain rfl := List.mem_singleton.1 hi'
      clear hi'
      refine wpOp_step rfl fun K hK => ?_
      go_simp
      refine HPB.out.mono ?_
      rintro e w4 ⟨a4, b4, rfl, g1, g2, g3, g4⟩
      have HP4 := Lib.hid (PB.below (W := wk.drew) HP.out g4)
      have HB4 := Lib.hid (HBD.out.trans (g4.mono HBD.out.size))
      have HG4 := Lib.hid (And.intro g1 (And.intro g2 g3))
      have HPS4 := Lib.hid (passStars_any l (.slice va l.length vc) a4 b4 w4 (HV.out.below HB4.out) hl g1 g2)
      clear g1 g2 g3 g4
      refine hK _ _ ⟨fun h => (nomatch (h.symm.trans (show _ = true by kernel_rfl))), trivial, ?_⟩
      clear hK K
      (try simp only [Act.put, List.setIfInBounds_toArray, List.set_cons_zero, List.set_cons_succ])
      refine wpAnyK_all (rs := [7]) (by kernel_rfl) (by simp) ?_
      intro i' hi'
      obtain rfl := List.mem_singleton.1 hi'
      clear hi'
      refine wpOp_step rfl fun K hK => ?_
      go_simp
      refine HPS4.out.mono ?_
      rintro e w5 ⟨a5, b5, rfl, g1, g2, g3, g4⟩
      have HP5 := Lib.hid (HP4.out.below g4)
      have HB5 := Lib.hid (HB4.out.trans (g4.mono HB4.out.size))
      have HG5 := Lib.hid (And.intro g1 (And.intro g2 g3))
      clear g1 g2 g3 g4
      refine hK _ _ ⟨fun h => (nomatch (h.symm.trans (show _ = true by kernel_rfl))), trivial, ?_⟩
      clear hK K
      (try simp only [Act.put, List.setIfInBounds_toArray, List.set_cons_zero, List.set_cons_succ])
      refine wpAnyK_all (rs := [8]) (by kernel_rfl) (by simp) ?_
      intro i' hi'
      obtain rfl := List.mem_singleton.1 hi'
      clear hi'
      refine wpOp_step rfl fun K hK => ?_
      refine wp_store_into 88 (.tmp 5) (.tmp 23) rfl B #[uV a5, uV b5] rfl rfl 88 #[uV a, uV b] HP5.out (size_pl _ _) rfl (one_pl _ _) ?_
      intro W6 m1 m2 m3
      have HP6 := Lib.hid (show PB W6 B a5 b5 from m1)
      have HB6 := Lib.hid (below_seq HB5.out (m3 w.heap.size HBlt.out) (Nat.le_refl _))
      clear m1 m2 m3
      refine hK _ _ ⟨fun h => (nomatch (h.symm.trans (show _ = true by kernel_rfl))), trivial, ?_⟩
      clear hK K
      refine wpAnyK_done (by kernel_rfl) ?_ _
      refine NoPanic.normal ?_
      go_wp2
      refine ⟨⟨k + 1, a5, b5, by omega, by go_num, Lib.hid ⟨HG5.out.1, HG5.out.2.1, fun j hj => ?_⟩, HP6.out, HB6.out⟩, by simp [intOf]; omega⟩
      rw [HTK.out, HG5.out.2.2 j hj]
      exact close_step l (S := hasB a b) (T := hasB a4 b4) HI.out.2.2 HG4.out.2.2 j hj
    · obtain rfl : k = s.size := by omega
      have hend : hasB a b l.length = r := by
        rw [HI.out.2.2 l.length (Nat.le_refl _), at1_end, List.take_of_length_le (by rw [size_list]; exact Nat.le_refl _), HR.out]
      have HH := Lib.hid (has_at a b l.length HI.out.1 HI.out.2.1 (by omega) r hend wk)
      clear hend
      go_wp2_with fail
      refine HH.out.mono ?_
      rintro e w4 ⟨rfl, h4⟩
      have HB4 := Lib.hid (HB.out.trans (h4.mono HB.out.size))
      clear h4
      go_wp2_with fail
      go_ret
      exact ⟨rfl, HB4.out⟩
/-- checkString -/
theorem checkString_at (s : ByteArray) (r : Int) (hr : chkW s.data.toList = r) (w : World) :
    Calls Try.prog 44 #[.string s] w fun e w' => e = .returned (intV r) ∧ w = w' := by
  unfold chkW at hr
  rw [size_list] at hr
  by_cases h1 : 64 < s.size
  · rw [if_pos h1] at hr
    subst hr
    have q : decide ((64 : Int) < s.size) = true := decide_eq_true (by omega)
    go_enter Try.func44, Try.ntmps44
    go_wp2_with fail
    go_ret
    exact ⟨rfl, rfl⟩
  · rw [if_neg h1] at hr
    have q : decide ((64 : Int) < s.size) = false := decide_eq_false (by omega)
    obtain ⟨c, hc⟩ : ∃ c, s.data.toList.any (· == 32) = c := ⟨_, rfl⟩
    rw [hc] at hr
    have HC := Lib.hid (contains_at s 32 c hc w)
    clear hc
    cases c with
    | true =>
      rw [if_pos rfl] at hr
      subst hr
      go_enter Try.func44, Try.ntmps44
      go_wp2_with fail
      refine HC.out.mono ?_
      rintro e w1 ⟨rfl, rfl⟩
      go_wp2_with fail
      go_ret
      exact ⟨rfl, rfl⟩
    | false =>
      rw [if_neg (by decide)] at hr
      subst hr
      go_enter Try.func44, Try.ntmps44
      go_wp2_with fail
      refine HC.out.mono ?_
      rintro e w1 ⟨rfl, rfl⟩
      go_wp2_with fail
      go_ret
      exact ⟨rfl, rfl⟩
theorem pat_len {s : ByteArray} (h : chk s.data.toList = 0) : (par s.data.toList).2.length ≤ 64 := by
  obtain ⟨_, l, hp, _, _, hl, _⟩ := chk_ok h
  rw [hp]; exact hl
set_option maxHeartbeats 1000000 in
theorem match_at (p s : ByteArray) (b : Bool) (r : Int) (h : matchR p.data.toList s.data.toList = (b, r)) (w : World) :
    Calls Try.prog 22 #[.string p, .string s] w fun e w' => e = .returned (.tuple #[.bool b, intV r]) ∧ Below w.heap.size w w' := by
  unfold matchR at h
  by_cases hp : chk p.data.toList = 0
  · rw [if_neg (by rw [hp]; decide)] at h
    have HEL := Lib.hid (elements_good p _ hp rfl w)
    obtain ⟨ew, hew⟩ : ∃ ew, chkW s.data.toList = ew := ⟨_, rfl⟩
    rw [hew] at h
    have HCS := Lib.hid (fun W => checkString_at s ew hew W)
    have HLE := Lib.hid (pat_len hp)
    generalize hl : (par p.data.toList).2 = l at *
    have HL := Lib.hid hl
    clear hl hp
    by_cases he : ew = 0
    · rw [if_neg (by rw [he]; decide)] at h
      simp only [Prod.mk.injEq] at h
      obtain ⟨hb, rfl⟩ := h
      subst he
      have hs64 : s.size ≤ 64 := by
        rcases Nat.lt_or_ge 64 s.size with g | g
        · unfold chkW at hew; rw [if_pos (by rw [size_list]; exact g)] at hew; cases hew
        · exact g
      have HMB := Lib.hid hb
      clear hb hew
      go_enter Try.func22, Try.ntmps22
      go_wp2_with fail
      refine HEL.out.mono ?_
      rintro e w1 ⟨v, rfl, hv, h1⟩
      have HV := Lib.hid hv
      have HB1 := Lib.hid h1
      clear hv h1
      go_wp2_with fail
      refine (HCS.out w1).mono ?_
      rintro e w2 ⟨rfl, rfl⟩
      go_wp2_with fail
      refine (matches_at l v s w1 HV.out HLE.out hs64 b HMB.out).mono ?_
      rintro e w3 ⟨rfl, h3⟩
      have HB3 := Lib.hid (HB1.out.trans (h3.mono HB1.out.size))
      clear h3
      go_wp2_with fail
      refine bodyPost_ret (v := .tuple #[.bool b, intV 0]) (by simp [results, Try.results22, go_sem]) rfl ⟨rfl, HB3.out⟩
    · rw [if_pos he] at h
      simp only [Prod.mk.injEq] at h
      obtain ⟨rfl, rfl⟩ := h
      have heb : (ew != 0) = true := by simpa using he
      clear hew he
      go_enter Try.func22, Try.ntmps22
      go_wp2_with fail
      refine HEL.out.mono ?_
      rintro e w1 ⟨v, rfl, hv, h1⟩
      have HB1 := Lib.hid h1
      clear hv h1
      go_wp2_with fail
      refine (HCS.out w1).mono ?_
      rintro e w2 ⟨rfl, rfl⟩
      go_wp2_with fail
      refine bodyPost_ret (v := .tuple #[.bool false, intV ew]) (by simp [results, Try.results22, go_sem]) rfl ⟨rfl, HB1.out⟩
  · rw [if_pos hp] at h
    simp only [Prod.mk.injEq] at h
    obtain ⟨rfl, rfl⟩ := h
    have HEL := Lib.hid (elements_bad p hp w)
    clear hp
    go_enter Try.func22, Try.ntmps22
    go_wp2_with fail
    refine HEL.out.mono ?_
    rintro e w1 ⟨v, rfl, h1⟩
    have HB1 := Lib.hid h1
    clear h1
    go_wp2_with fail
    refine bodyPost_ret (v := .tuple #[.bool false, intV 1]) (by simp [results, Try.results22, go_sem]) rfl ⟨rfl, HB1.out⟩
end Go.Proofs.Ytjjdihkjkmhjnaa
