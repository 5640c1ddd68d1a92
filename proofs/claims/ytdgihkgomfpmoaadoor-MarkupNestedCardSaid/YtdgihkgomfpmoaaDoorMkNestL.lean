/- MarkupNested: the law's walk (written by gen_mknested.py). -/
import Derived.Test.YtdgihkgomfpmoaaDoorMkNestA
import Derived.Test.YtdgihkgomfpmoaaDoorMkAwake
namespace Go.Proofs.YtdgihkgomfpmoaaDoor
set_option linter.unusedSimpArgs false
set_option linter.unusedVariables false
set_option maxRecDepth 100000
open Go.RowKit Go.Deep

set_option maxHeartbeats 16000000 in
theorem nested_law (H : MkOk) (l m : List Lx) (p : Int) (v u : Value) (w : World) [T w] (hv : LexIn w v l) (hl : l.length ≤ maxLen) (hu : LexIn w u m) (hm : m.length ≤ maxLen) (hp : 0 ≤ p ∧ p < 256) :
    Calls Tryd.prog 7 #[v, u, .int .u8 p] w fun e w' => e = .returned (.bool true) ∧ Below w.heap.size w w' := by
  obtain ⟨hv, hin⟩ := hv
  obtain ⟨hu, hun⟩ := hu
  obtain ⟨a, ca, rfl⟩ := hv.slice
  obtain ⟨b, cb, rfl⟩ := hu.slice
  have HV := Lib.hid hv
  try have tHV := T.below HV.out
  have HU := Lib.hid hu
  try have tHU := T.below HU.out
  have HA := Lib.hid (fun (W : World) [T W] => awake_any H W)
  obtain ⟨g1, hg1⟩ : ∃ g, greatLB l = g := ⟨_, rfl⟩
  obtain ⟨g2, hg2⟩ : ∃ g, greatLB m = g := ⟨_, rfl⟩
  have HG1 := Lib.hid (fun W (h : LexAt W (.slice a l.length ca) l) => greatL_any l hl g1 hg1 _ W h)
  have HG2 := Lib.hid (fun W (h : LexAt W (.slice b m.length cb) m) => greatL_any m hm g2 hg2 _ W h)
  cases g1 with
  | true =>
    clear hv hu hin hun hl hm hg1 hg2
    go_enter Tryd.func7, Tryd.ntmps7
    go_wp2_with fail
    refine (HG1.out w HV.out).mono ?_
    rintro e' w1 ⟨rfl, h1⟩
    have B1 := Lib.hid h1
    try have tB1 := T.below B1.out
    clear h1
    go_wp2_with fail
    refine (HA.out w1).mono ?_
    rintro e' wz ⟨rfl, hz⟩
    have BZ := Lib.hid (below_then B1.out hz)
    try have tBZ := T.below BZ.out
    clear hz
    go_wp2
    go_ret
    exact ⟨rfl, BZ.out⟩
  | false =>
    cases g2 with
    | true =>
      clear hv hu hin hun hl hm hg1 hg2
      go_enter Tryd.func7, Tryd.ntmps7
      go_wp2_with fail
      refine (HG1.out w HV.out).mono ?_
      rintro e' w1 ⟨rfl, h1⟩
      have B1 := Lib.hid h1
      try have tB1 := T.below B1.out
      clear h1
      go_wp2_with fail
      refine (HG2.out w1 (HU.out.below B1.out)).mono ?_
      rintro e' w2 ⟨rfl, h2⟩
      have B2 := Lib.hid (below_then B1.out h2)
      try have tB2 := T.below B2.out
      clear h2
      go_wp2_with fail
      refine (HA.out w2).mono ?_
      rintro e' wz ⟨rfl, hz⟩
      have BZ := Lib.hid (below_then B2.out hz)
      try have tBZ := T.below BZ.out
      clear hz
      go_wp2
      go_ret
      exact ⟨rfl, BZ.out⟩
    | false =>
      obtain ⟨hb1, hl1⟩ := great_b hg1 hin
      obtain ⟨hb2, hl2⟩ := great_b hg2 hun
      obtain ⟨e1, he1⟩ : ∃ e, nestR l = e := ⟨_, rfl⟩
      obtain ⟨e2, he2⟩ : ∃ e, nestR m = e := ⟨_, rfl⟩
      have HN1 := Lib.hid (fun (W : World) [T W] (h : LexAt W (.slice a l.length ca) l) => nested_at H l e1 he1 hb1 _ W h)
      have HN2 := Lib.hid (fun (W : World) [T W] (h : LexAt W (.slice b m.length cb) m) => nested_at H m e2 he2 hb2 _ W h)
      by_cases z1 : e1 = 0
      · subst z1
        by_cases z2 : e2 = 0
        · subst z2
          obtain ⟨k1, k2⟩ := nest_of he1
          obtain ⟨k3, k4⟩ := nest_of he2
          have sl := chk_sm k1
          have sm := chk_sm k3
          have sc : ∀ x, SmX x → lenX x ≤ 1000000 := fun x h => Nat.le_trans (sm_len h) (by decide)
          have hlb : SmX lbX := ⟨by unfold I64 lbX; decide, by decide⟩
          have hO : SmX unO := ⟨by unfold I64 unO; decide, by decide⟩
          have hC : SmX unC := ⟨by unfold I64 unC; decide, by decide⟩
          -- both lists, one after the other
          have sB : ∀ x ∈ l ++ [lbX] ++ m, SmX x := fun x hx => by
            rcases List.mem_append.1 hx with hx | hx
            · rcases List.mem_append.1 hx with hx | hx
              · exact sl x hx
              · rw [List.mem_singleton] at hx; rw [hx]; exact hlb
            · exact sm x hx
          have lB : (l ++ [lbX] ++ m).length ≤ 60 := by simp; omega
          have fB : ([l, [lbX], m] : List (List Lx)).flatten = l ++ [lbX] ++ m := by simp
          have HCB := Lib.hid (fun v W (h : LLAt W v [l, [lbX], m]) => concat_any [l, [lbX], m] (by simp) (by rw [fB]; omega) v W h)
          rw [fB] at HCB
          have HAB := Lib.hid (fun v W (h : LexAt W v (l ++ [lbX] ++ m)) => at_any (l ++ [lbX] ++ m) (by omega) (fun x hx => sc x (sB x hx)) v W h)
          obtain ⟨c, hc⟩ : ∃ c, chkR (reAt 0 (l ++ [lbX] ++ m)) = c := ⟨_, rfl⟩
          have HKB := Lib.hid (fun v (W : World) [T W] (h : LexAt W v (reAt 0 (l ++ [lbX] ++ m))) => check_at H _ c hc (reAt_b sB (by omega)) v W h)
          have HNB := Lib.hid (fun (h0 : c = 0) v (W : World) [T W] (h : LexAt W v (reAt 0 (l ++ [lbX] ++ m))) => nested_at H _ 0 (by rw [nest_at (hc.trans h0)]; exact nest_both rfl k2 k4) (reAt_b sB (by omega)) v W h)
          -- within a tag
          have sI : ∀ x ∈ [unO] ++ l ++ [unC], SmX x := fun x hx => by
            rcases List.mem_append.1 hx with hx | hx
            · rcases List.mem_append.1 hx with hx | hx
              · rw [List.mem_singleton] at hx; rw [hx]; exact hO
              · exact sl x hx
            · rw [List.mem_singleton] at hx; rw [hx]; exact hC
          have lI : ([unO] ++ l ++ [unC]).length ≤ 60 := by simp; omega
          have fI : ([[unO], l, [unC]] : List (List Lx)).flatten = [unO] ++ l ++ [unC] := by simp
          have HCI := Lib.hid (fun v W (h : LLAt W v [[unO], l, [unC]]) => concat_any [[unO], l, [unC]] (by simp) (by rw [fI]; omega) v W h)
          rw [fI] at HCI
          have HAI := Lib.hid (fun v W (h : LexAt W v ([unO] ++ l ++ [unC])) => at_any ([unO] ++ l ++ [unC]) (by omega) (fun x hx => sc x (sI x hx)) v W h)
          obtain ⟨d, hd⟩ : ∃ c, chkR (reAt 0 ([unO] ++ l ++ [unC])) = c := ⟨_, rfl⟩
          obtain ⟨f, hf⟩ : ∃ c, nestR (reAt 0 ([unO] ++ l ++ [unC])) = c := ⟨_, rfl⟩
          have HKI := Lib.hid (fun v (W : World) [T W] (h : LexAt W v (reAt 0 ([unO] ++ l ++ [unC]))) => check_at H _ d hd (reAt_b sI (by omega)) v W h)
          have HNI := Lib.hid (fun v (W : World) [T W] (h : LexAt W v (reAt 0 ([unO] ++ l ++ [unC]))) => nested_at H _ f hf (reAt_b sI (by omega)) v W h)
          have HMO := Lib.hid (show d = 0 → (f == 0) = decide (mostI 0 0 l < 16) from fun h => by rw [← hf]; exact in_iff k2 (hd.trans h))
          -- one tag less
          have HCL := Lib.hid (fun W (h : LexAt W (.slice a l.length ca) l) => clone_any l (by omega) _ W h)
          have sL : ∀ j, ∀ x ∈ l.set j lbX, SmX x := fun j x hx => by
            rcases List.mem_or_eq_of_mem_set hx with hx | hx
            · exact sl x hx
            · rw [hx]; exact hlb
          have HAL := Lib.hid (fun j v W (h : LexAt W v (l.set j lbX)) => at_any (l.set j lbX) (by rw [List.length_set]; omega) (fun x hx => sc x (sL j x hx)) v W h)
          have HNL := Lib.hid (fun j (hj : j < l.length) (hk : l[j].k = 2 ∨ l[j].k = 3) v (W : World) [T W] (h : LexAt W v (reAt 0 (l.set j lbX))) => nested_at H _ 12 (by rw [nest_at (less_chk k1 j hj hk)]; exact nest_less hl1 k2 j hj hk lbX rfl) (reAt_b (sL j) (by rw [List.length_set]; omega)) v W h)
          obtain ⟨i0, hi, hz0, hz1, hz2⟩ := info_parts info_int
          have hcc : (c = 0 ∧ (c == 0) = true) ∨ (c ≠ 0 ∧ (c == 0) = false) := by
            by_cases h : c = 0
            · exact .inl ⟨h, by simp [h]⟩
            · exact .inr ⟨h, by simpa using h⟩
          have hdd : (d = 0 ∧ (d == 0) = true) ∨ (d ≠ 0 ∧ (d == 0) = false) := by
            by_cases h : d = 0
            · exact .inl ⟨h, by simp [h]⟩
            · exact .inr ⟨h, by simpa using h⟩
          have HDD := Lib.hid hdd
          have llen : l.length ≤ 24 := hl1
          have HPP := Lib.hid hp
          try have tHPP := T.below HPP.out
          clear hv hu hin hun hl hm hg1 hg2 hb1 hb2 hl1 hl2 he1 he2 k1 k2 k3 k4 sl sm sc hlb hO hC sB lB fB hc sI lI fI hd hf sL hdd hp
          go_enter Tryd.func7, Tryd.ntmps7
          go_wp2_with fail
          refine (HG1.out w HV.out).mono ?_
          rintro e' w1 ⟨rfl, h1⟩
          have B1 := Lib.hid h1
          try have tB1 := T.below B1.out
          clear h1
          go_wp2_with fail
          refine (HG2.out w1 (HU.out.below B1.out)).mono ?_
          rintro e' w2 ⟨rfl, h2⟩
          have B2 := Lib.hid (below_then B1.out h2)
          try have tB2 := T.below B2.out
          clear h2
          go_wp2_with fail
          refine (HN1.out w2 (HV.out.below B2.out)).mono ?_
          rintro e' w3 ⟨rfl, h3⟩
          have B3 := Lib.hid (below_then B2.out h3)
          try have tB3 := T.below B3.out
          clear h3
          go_wp2_with fail
          refine (HN2.out w3 (HU.out.below B3.out)).mono ?_
          rintro e' w4 ⟨rfl, h4⟩
          have B4 := Lib.hid (below_then B3.out h4)
          try have tB4 := T.below B4.out
          clear h4
          go_wp2_with fail
          have q5 := lex_lit w4 [lbX] #[intV 4, .string ⟨#[108, 98]⟩, .string ⟨#[]⟩, intV 0] rfl (by decide)
          have b5 := alloc_below w4 (.cells #[intV 4, .string ⟨#[108, 98]⟩, .string ⟨#[]⟩, intV 0] 36)
          obtain ⟨w5, hw5⟩ : ∃ x, w4.alloc (.cells #[intV 4, .string ⟨#[108, 98]⟩, .string ⟨#[]⟩, intV 0] 36) = x := ⟨_, rfl⟩
          have s5 : w5.heap.size = w4.heap.size + 1 := by rw [← hw5]; simp
          rw [hw5] at q5 b5
          have Q5 := Lib.hid q5.lex
          have B5 := Lib.hid (below_then B4.out b5)
          try have tB5 := T.below B5.out
          have hl5 := ll_lit w5 [.slice a l.length ca, .slice (some ⟨w4.heap.size, 0, none⟩) 1 1, .slice b m.length cb] [l, [lbX], m] rfl (fun j hj => by
            match j, hj with
            | 0, _ => exact HV.out.below B5.out
            | 1, _ => exact q5.lex
            | 2, _ => exact HU.out.below B5.out)
          have b6 := alloc_below w5 (.cells #[.slice a l.length ca, .slice (some ⟨w4.heap.size, 0, none⟩) 1 1, .slice b m.length cb] 22)
          rw [s5] at hl5
          have B6 := Lib.hid (below_then B5.out b6)
          try have tB6 := T.below B6.out
          have Q6 := Lib.hid (Q5.out.below b6)
          have HC6 := Lib.hid (HCB.out _ _ hl5)
          clear q5 b5 hl5 b6
          rw [hw5]
          refine HC6.out.mono ?_
          rintro e' w7 ⟨u7, rfl, hu, h7⟩
          have B7 := Lib.hid (below_then B6.out h7)
          try have tB7 := T.below B7.out
          have Q7 := Lib.hid (Q6.out.below h7)
          have U7 := Lib.hid hu.lex
          clear h7 hu
          go_wp2_with fail
          refine (HAB.out _ w7 U7.out).mono ?_
          rintro e' w8 ⟨u8, rfl, hu, h8⟩
          have B8 := Lib.hid (below_then B7.out h8)
          try have tB8 := T.below B8.out
          have Q8 := Lib.hid (Q7.out.below h8)
          have U8 := Lib.hid hu
          try have tU8 := T.below U8.out
          clear h8 hu
          go_wp2_with fail
          refine (HKB.out _ w8 U8.out).mono ?_
          rintro e' w9 ⟨rfl, h9⟩
          have B9 := Lib.hid (below_then B8.out h9)
          try have tB9 := T.below B9.out
          have Q9 := Lib.hid (Q8.out.below h9)
          have U9 := Lib.hid (U8.out.below h9)
          clear h9
          rcases hcc with ⟨c1, c2⟩ | ⟨c1, c2⟩
          · have HFI := Lib.hid c1
            have HNB2 := Lib.hid (HNB.out c1)
            clear c1
            go_wp2_with fail
            refine (HNB2.out _ w9 U9.out).mono ?_
            rintro e' w10 ⟨rfl, h10⟩
            have B10 := Lib.hid (below_then B9.out h10)
            try have tB10 := T.below B10.out
            have Q10 := Lib.hid (Q9.out.below h10)
            clear h10
            go_wp2_with fail
            have q11 := lex_lit w10 [unO] #[intV 2, .string ⟨#[117, 110, 99, 108, 101, 97, 114]⟩, .string ⟨#[]⟩, intV 0] rfl (by decide)
            have b11 := alloc_below w10 (.cells #[intV 2, .string ⟨#[117, 110, 99, 108, 101, 97, 114]⟩, .string ⟨#[]⟩, intV 0] 36)
            obtain ⟨w11, hw11⟩ : ∃ x, w10.alloc (.cells #[intV 2, .string ⟨#[117, 110, 99, 108, 101, 97, 114]⟩, .string ⟨#[]⟩, intV 0] 36) = x := ⟨_, rfl⟩
            have s11 : w11.heap.size = w10.heap.size + 1 := by rw [← hw11]; simp
            rw [hw11] at q11 b11
            have q12 := lex_lit w11 [unC] #[intV 3, .string ⟨#[117, 110, 99, 108, 101, 97, 114]⟩, .string ⟨#[]⟩, intV 0] rfl (by decide)
            have b12 := alloc_below w11 (.cells #[intV 3, .string ⟨#[117, 110, 99, 108, 101, 97, 114]⟩, .string ⟨#[]⟩, intV 0] 36)
            obtain ⟨w12, hw12⟩ : ∃ x, w11.alloc (.cells #[intV 3, .string ⟨#[117, 110, 99, 108, 101, 97, 114]⟩, .string ⟨#[]⟩, intV 0] 36) = x := ⟨_, rfl⟩
            have s12 : w12.heap.size = w10.heap.size + 1 + 1 := by rw [← hw12]; simp [s11]
            rw [hw12] at q12 b12
            have B12 := Lib.hid (below_then B10.out (below_then b11 b12))
            try have tB12 := T.below B12.out
            have Q12 := Lib.hid (Q10.out.below (below_then b11 b12))
            try have tQ12 := T.below Q12.out
            have hl12 := ll_lit w12 [.slice (some ⟨w10.heap.size, 0, none⟩) 1 1, .slice a l.length ca, .slice (some ⟨w11.heap.size, 0, none⟩) 1 1] [[unO], l, [unC]] rfl (fun j hj => by
              match j, hj with
              | 0, _ => exact q11.lex.below b12
              | 1, _ => exact HV.out.below B12.out
              | 2, _ => exact q12.lex)
            have b13 := alloc_below w12 (.cells #[.slice (some ⟨w10.heap.size, 0, none⟩) 1 1, .slice a l.length ca, .slice (some ⟨w11.heap.size, 0, none⟩) 1 1] 22)
            rw [s12, s11] at hl12
            rw [s11] at b13
            have B13 := Lib.hid (below_then B12.out b13)
            try have tB13 := T.below B13.out
            have Q13 := Lib.hid (Q12.out.below b13)
            have HC13 := Lib.hid (HCI.out _ _ hl12)
            clear q11 b11 q12 b12 hl12 b13
            rw [hw11, hw12]
            refine HC13.out.mono ?_
            rintro e' w14 ⟨u14, rfl, hu, h14⟩
            have B14 := Lib.hid (below_then B13.out h14)
            try have tB14 := T.below B14.out
            have Q14 := Lib.hid (Q13.out.below h14)
            have U14 := Lib.hid hu.lex
            clear h14 hu hw11 hw12 s11 s12
            go_wp2_with fail
            refine (HAI.out _ w14 U14.out).mono ?_
            rintro e' w15 ⟨u15, rfl, hu, h15⟩
            have B15 := Lib.hid (below_then B14.out h15)
            try have tB15 := T.below B15.out
            have Q15 := Lib.hid (Q14.out.below h15)
            have U15 := Lib.hid hu
            try have tU15 := T.below U15.out
            clear h15 hu
            go_wp2
            go_loopw [10, 11, 12, 60] (fun dv mv tv iv wr => ∃ (k : Nat) (x mo : Int), k ≤ l.length ∧ iv = .int .i64 k ∧ dv = .int .i64 x ∧ mv = .int .i64 mo ∧ Hid (mostI 0 0 l = mostI x mo (l.drop k)) ∧ (-(k : Int) ≤ x ∧ x ≤ k ∧ 0 ≤ mo ∧ mo ≤ k) ∧ wr.ownsRow w15.heap.size 3 1 tv (tagsN l k).length ((tagsN l k).map intV) ∧ Below w15.heap.size w15 wr) (fun _ _ _ iv _ => l.length - (intOf iv).toNat)
            case atStart => exact ⟨0, 0, 0, Nat.zero_le _, rfl, rfl, rfl, Lib.hid rfl, by omega, World.ownsRow_nil _ _ _ _, Below.refl _ _⟩
            case round =>
              obtain ⟨k, x, mo, hk, rfl, rfl, rfl, HMI, ⟨x1, x2, m1, m2⟩, ho, hB⟩ := hrel
              obtain ⟨wk, rfl⟩ : ∃ x, x = wr := ⟨_, rfl⟩
              try have twk : T wk := T.below hB
              have HO := Lib.hid ho
              try have tHO := T.below HO.out
              have HB := Lib.hid hB
              try have tHB := T.below HB.out
              have hWk := below_then B15.out hB
              by_cases hlt : k < l.length
              · obtain ⟨bb, off, rfl, hbb, c1, c2, c3, c4⟩ := HV.out.elem hlt
                have d1 := (hWk.cell (p := ⟨bb, off + k * 4, none⟩) hbb).trans c1
                have d2 := (hWk.cell (p := ⟨bb, off + k * 4 + 1, none⟩) hbb).trans c2
                have d3 := (hWk.cell (p := ⟨bb, off + k * 4 + 2, none⟩) hbb).trans c3
                have d4 := (hWk.cell (p := ⟨bb, off + k * 4 + 3, none⟩) hbb).trans c4
                have hms := most_step hlt x mo
                have hty := fun h => tagsN_yes hlt h
                have htn := fun h => tagsN_no hlt h
                obtain ⟨y, hy⟩ : ∃ y, l[k] = y := ⟨_, rfl⟩
                rw [hy] at d1 d2 d3 d4 hms hty htn
                obtain ⟨kk, n, vv, oo⟩ := y
                simp only at d1 d2 d3 d4 hty htn
                have HBX := Lib.hid (fun o => (hB.alloc hB.size o : Below w15.heap.size w15 (wk.alloc o)))
                have tl := tagsN_len l k
                have ib0 : (0 : Int) ≤ (k : Int) := by omega
                have ib1 : (k : Int) < (l.length : Int) := by omega
                by_cases hk2 : kk = 2
                · have q2 : (kk == 2) = true := by simp [hk2]
                  have hst : stepD x ⟨kk, n, vv, oo⟩ = x + 1 := by unfold stepD; rw [if_pos hk2]
                  rw [hst] at hms
                  have HMS := Lib.hid hms
                  have HT := Lib.hid (hty (.inl hk2))
                  obtain ⟨x', hx'⟩ : ∃ z, x + 1 = z := ⟨_, rfl⟩
                  rw [hx'] at HMS
                  have hwx : IntKind.i64.wrap (x + 1) = x' := by rw [← hx']; exact IntWalk.i64_in _ (by omega)
                  have hb1 : -((k + 1 : Nat) : Int) ≤ x' ∧ x' ≤ ((k + 1 : Nat) : Int) := by omega
                  have HB1 := Lib.hid hb1
                  try have tHB1 := T.below HB1.out
                  have HK2 := Lib.hid hk2
                  try have tHK2 := T.below HK2.out
                  clear hms hty htn hst ho hB hWk c1 c2 c3 c4 hy hbb hx' hb1 hk2
                  go_wp2_with (at_builtin; refine wpList_append_own _ rfl _ _ 45 rfl w15.heap.size 3 i0 (.int .i64 0) 1 8 Tryd.underlying45 hi hz0 hz1 hz2 rfl (by decide) _ _ _ rfl ((HO.out.alloc _).alloc _) ⟨wk.heap.size + 1, 0, none⟩ 1 1 [intV k] rfl rfl (one_news _ _ _ _ (by simp)) (by simp [Value.oneCell']) (by unfold maxLen; omega) (by omega) (by have := HB.out.size; simp; omega) ?_; intro v' w3 hown' hgrow hnn; clear hnn; have HO3 := Lib.hid hown'; have HB3 := Lib.hid (((HB.out.alloc HB.out.size _).alloc (by have := HB.out.size; simp; omega) _).grown hgrow (by have := HB.out.size; simp; omega) (fun q hq => (HO.out.lt q hq).1)); clear hown' hgrow)
                  go_roundw
                  case rel => exact ⟨k + 1, x', max mo x', by omega, by go_num, rfl, rfl, Lib.hid (by rw [HMI.out, HMS.out]), by have := HB1.out; omega, by rw [HT.out, List.length_append, List.map_append]; exact HO3.out, HB3.out⟩
                  case measure => simp [intOf]; omega
                · have q2 : (kk == 2) = false := by simpa using hk2
                  by_cases hk3 : kk = 3
                  · have q3 : (kk == 3) = true := by simp [hk3]
                    have hst : stepD x ⟨kk, n, vv, oo⟩ = x - 1 := by unfold stepD; rw [if_neg hk2, if_pos hk3]
                    rw [hst] at hms
                    have HMS := Lib.hid hms
                    have HT := Lib.hid (hty (.inr hk3))
                    obtain ⟨x', hx'⟩ : ∃ z, x - 1 = z := ⟨_, rfl⟩
                    rw [hx'] at HMS
                    have hwx : IntKind.i64.wrap (x - 1) = x' := by rw [← hx']; exact IntWalk.i64_in _ (by omega)
                    have hb1 : -((k + 1 : Nat) : Int) ≤ x' ∧ x' ≤ ((k + 1 : Nat) : Int) := by omega
                    have HB1 := Lib.hid hb1
                    try have tHB1 := T.below HB1.out
                    have HK2 := Lib.hid hk2
                    try have tHK2 := T.below HK2.out
                    have HK3 := Lib.hid hk3
                    try have tHK3 := T.below HK3.out
                    clear hms hty htn hst ho hB hWk c1 c2 c3 c4 hy hbb hx' hb1 hk2 hk3
                    go_wp2_with (at_builtin; refine wpList_append_own _ rfl _ _ 45 rfl w15.heap.size 3 i0 (.int .i64 0) 1 8 Tryd.underlying45 hi hz0 hz1 hz2 rfl (by decide) _ _ _ rfl ((HO.out.alloc _).alloc _) ⟨wk.heap.size + 1, 0, none⟩ 1 1 [intV k] rfl rfl (one_news _ _ _ _ (by simp)) (by simp [Value.oneCell']) (by unfold maxLen; omega) (by omega) (by have := HB.out.size; simp; omega) ?_; intro v' w3 hown' hgrow hnn; clear hnn; have HO3 := Lib.hid hown'; have HB3 := Lib.hid (((HB.out.alloc HB.out.size _).alloc (by have := HB.out.size; simp; omega) _).grown hgrow (by have := HB.out.size; simp; omega) (fun q hq => (HO.out.lt q hq).1)); clear hown' hgrow)
                    go_roundw
                    case rel => exact ⟨k + 1, x', max mo x', by omega, by go_num, rfl, rfl, Lib.hid (by rw [HMI.out, HMS.out]), by have := HB1.out; omega, by rw [HT.out, List.length_append, List.map_append]; exact HO3.out, HB3.out⟩
                    case measure => simp [intOf]; omega
                  · have q3 : (kk == 3) = false := by simpa using hk3
                    have hst : stepD x ⟨kk, n, vv, oo⟩ = x := by unfold stepD; rw [if_neg hk2, if_neg hk3]
                    rw [hst] at hms
                    have HMS := Lib.hid hms
                    have HT := Lib.hid (htn (fun h => h.elim hk2 hk3))
                    have HK2 := Lib.hid hk2
                    try have tHK2 := T.below HK2.out
                    have HK3 := Lib.hid hk3
                    try have tHK3 := T.below HK3.out
                    clear hms hty htn hst ho hB hWk c1 c2 c3 c4 hy hbb hk2 hk3
                    go_wp2
                    go_roundw
                    case rel => exact ⟨k + 1, x, max mo x, by omega, by go_num, rfl, rfl, Lib.hid (by rw [HMI.out, HMS.out]), by omega, by rw [HT.out]; exact HO.out.alloc _, HBX.out _⟩
                    case measure => simp [intOf]; omega
              · obtain rfl : k = l.length := by omega
                have hmo : mostI 0 0 l = mo := by
                  have := HMI.out
                  rw [List.drop_length] at this
                  exact this
                have HMI2 := Lib.hid hmo
                clear hmo
                have hsml : l.length ≤ 24 := llen
                obtain ⟨nT, hnT⟩ : ∃ n, (tagsN l l.length).length = n := ⟨_, rfl⟩
                have htl := tagsN_len l l.length
                rw [hnT] at ho htl
                obtain ⟨ta, tc, rfl⟩ : ∃ a c, u12 = .slice a nT c := by
                  rcases ho.2 with ⟨h1, h2⟩ | ⟨g, cap, cur, h1, _⟩
                  · exact ⟨none, 0, by rw [h1, h2]⟩
                  · exact ⟨_, _, h1⟩
                have HO2 := Lib.hid ho
                try have tHO2 := T.below HO2.out
                have HNT := Lib.hid hnT
                have HB0 := Lib.hid (below_then B15.out hB)
                try have tHB0 := T.below HB0.out
                have U16 := Lib.hid (U15.out.below hB)
                have Q16 := Lib.hid (Q15.out.below hB)
                clear ho hB hnT HO HB
                obtain ⟨q, hq⟩ : ∃ q, decide (mo < 16) = q := ⟨_, rfl⟩
                rcases HDD.out with ⟨y1, y2⟩ | ⟨y1, y2⟩
                · have hfm : (f == 0) = q := by rw [HMO.out y1, HMI2.out, hq]
                  clear y1
                  go_wp2_with fail
                  refine (HKI.out _ wk U16.out).mono ?_
                  rintro e' w16 ⟨rfl, h16⟩
                  have HB16 := Lib.hid h16
                  try have tHB16 := T.below HB16.out
                  have B16 := Lib.hid (below_then HB0.out h16)
                  try have tB16 := T.below B16.out
                  have Q17 := Lib.hid (Q16.out.below h16)
                  clear h16
                  have U17 := Lib.hid (U16.out.below HB16.out)
                  go_wp2_with fail
                  refine (HNI.out _ w16 U17.out).mono ?_
                  rintro e' w17 ⟨rfl, h17⟩
                  have HB17 := Lib.hid (below_then HB16.out h17)
                  try have tHB17 := T.below HB17.out
                  have B17 := Lib.hid (below_then B16.out h17)
                  try have tB17 := T.below B17.out
                  have Q19 := Lib.hid (Q17.out.below h17)
                  clear h17
                  by_cases hT : nT = 0
                  · have n1 : ((nT : Int) == 0) = true := by simp [hT]
                    have HT0 := Lib.hid hT
                    try have tHT0 := T.below HT0.out
                    clear hT
                    go_wp2_with fail
                    refine (HA.out w17).mono ?_
                    rintro e' wz ⟨rfl, hz⟩
                    have BZ := Lib.hid (below_then B17.out hz)
                    try have tBZ := T.below BZ.out
                    clear hz
                    go_wp2
                    go_ret
                    exact ⟨rfl, BZ.out⟩
                  · have n1 : ((nT : Int) == 0) = false := by rw [beq_eq_false_iff_ne]; omega
                    have hpp := HPP.out
                    obtain ⟨r1, r2, r3, _⟩ := rem_i64 (s := p) (n := (nT : Int)) hpp.1 hpp.2 (by omega)
                    obtain ⟨r, hr⟩ : ∃ r : Nat, p % (nT : Int) = (r : Int) := ⟨(p % (nT : Int)).toNat, by omega⟩
                    rw [hr] at r1 r2 r3
                    have hrT : r < (tagsN l l.length).length := by rw [HNT.out]; omega
                    obtain ⟨j, hj1, hj2, hj3⟩ := tagsN_mem hrT
                    have HNLj := Lib.hid (HNL.out j hj2 hj3)
                    obtain ⟨g, cap, hform, hgb, hglt⟩ : ∃ g cap, Value.slice ta nT tc = .slice (some ⟨g, 0, none⟩) nT cap ∧ w15.heap.size ≤ g ∧ g < wk.heap.size := by
                      rcases HO2.out.2 with ⟨h1, h2⟩ | ⟨g, cap, cur, h1, h2, h3, _⟩
                      · exact absurd h2 hT
                      · exact ⟨g, cap, h1, h2, (Array.getElem?_eq_some_iff.1 h3).1⟩
                    cases hform
                    have t1 := World.ownsRow.cellAt HO2.out r (by omega)
                    rw [List.getElem?_map, List.getElem?_eq_getElem hrT, hj1] at t1
                    replace t1 : wk.cell? ⟨g, r, none⟩ = some (.int .i64 (j : Int)) := t1
                    have t2 := (HB17.out.cell (p := ⟨g, r, none⟩) hglt).trans t1
                    have hwp : IntKind.i64.wrap p = p := IntWalk.i64_in _ (by omega)
                    have hj0 : (0 : Int) ≤ (j : Int) := by omega
                    have hj4 : (j : Int) < (l.length : Int) := by omega
                    have hnz : ¬ (nT : Int) = 0 := by omega
                    have HT0 := Lib.hid hT
                    try have tHT0 := T.below HT0.out
                    have HJ := Lib.hid hj2
                    try have tHJ := T.below HJ.out
                    have HC17 := Lib.hid (HCL.out w17 (HV.out.below B17.out))
                    clear hT hpp hr hrT hj1 hj2 hj3 t1 hgb
                    go_wp2_with fail
                    refine HC17.out.mono ?_
                    rintro e' w18 ⟨u18, rfl, hu, h18⟩
                    have B18 := Lib.hid (below_then B17.out h18)
                    try have tB18 := T.below B18.out
                    have Q18 := Lib.hid (Q19.out.below h18)
                    obtain ⟨g2, cap2, e18, hb18, hg18⟩ := hu.form (show 0 < l.length by omega)
                    subst e18
                    obtain ⟨b', off', e', _, f1, f2, f3, f4⟩ := hu.lex.elem HJ.out
                    cases e'
                    rw [Nat.zero_add] at f1 f2 f3 f4
                    have z0 := World.ownsRow.frozenAt hu (j * 4)
                    have z1 := World.ownsRow.frozenAt hu (j * 4 + 1)
                    have z2 := World.ownsRow.frozenAt hu (j * 4 + 2)
                    have z3 := World.ownsRow.frozenAt hu (j * 4 + 3)
                    obtain ⟨b', off', e', hlb, v1, v2, v3, v4⟩ := Q18.out.elem (show 0 < [lbX].length by decide)
                    cases e'
                    rw [Nat.zero_mul, Nat.zero_add] at v1 v2 v3 v4
                    replace v1 : w18.cell? ⟨w4.heap.size, 0, none⟩ = some (.int .i64 4) := v1
                    replace v2 : w18.cell? ⟨w4.heap.size, 1, none⟩ = some (.string ⟨#[108, 98]⟩) := v2
                    replace v3 : w18.cell? ⟨w4.heap.size, 2, none⟩ = some (.string ⟨#[]⟩) := v3
                    replace v4 : w18.cell? ⟨w4.heap.size, 3, none⟩ = some (.int .i64 0) := v4
                    have hput : OwnX w17.heap.size ((((w18.setCell ⟨g2, j * 4, none⟩ (.int .i64 4)).setCell ⟨g2, j * 4 + 1, none⟩ (.string ⟨#[108, 98]⟩)).setCell ⟨g2, j * 4 + 2, none⟩ (.string ⟨#[]⟩)).setCell ⟨g2, j * 4 + 3, none⟩ (.int .i64 0)) (.slice (some ⟨g2, 0, none⟩) l.length cap2) (l.set j lbX) ∧ Below w17.heap.size w18 ((((w18.setCell ⟨g2, j * 4, none⟩ (.int .i64 4)).setCell ⟨g2, j * 4 + 1, none⟩ (.string ⟨#[108, 98]⟩)).setCell ⟨g2, j * 4 + 2, none⟩ (.string ⟨#[]⟩)).setCell ⟨g2, j * 4 + 3, none⟩ (.int .i64 0)) := hu.put HJ.out lbX
                    obtain ⟨w19, hw19⟩ : ∃ x, ((((w18.setCell ⟨g2, j * 4, none⟩ (.int .i64 4)).setCell ⟨g2, j * 4 + 1, none⟩ (.string ⟨#[108, 98]⟩)).setCell ⟨g2, j * 4 + 2, none⟩ (.string ⟨#[]⟩)).setCell ⟨g2, j * 4 + 3, none⟩ (.int .i64 0)) = x := ⟨_, rfl⟩
                    rw [hw19] at hput
                    have HW19 := Lib.hid hw19
                    try have tHW19 := T.below HW19.out
                    have HA19 := Lib.hid (HAL.out j _ w19 hput.1.lex)
                    have B19 := Lib.hid (below_then B17.out (h18.trans hput.2))
                    try have tB19 := T.below B19.out
                    clear hu h18 hb18 hlb hput hw19
                    go_wp2_with fail
                    rw [HW19.out]
                    refine HA19.out.mono ?_
                    rintro e' w20 ⟨u20, rfl, hu, h20⟩
                    have B20 := Lib.hid (below_then B19.out h20)
                    try have tB20 := T.below B20.out
                    have HN20 := Lib.hid (HNLj.out _ w20 hu)
                    clear h20 hu f1 f2 f3 f4 z0 z1 z2 z3 v1 v2 v3 v4 t2
                    go_wp2_with fail
                    refine HN20.out.mono ?_
                    rintro e' w21 ⟨rfl, h21⟩
                    have B21 := Lib.hid (below_then B20.out h21)
                    try have tB21 := T.below B21.out
                    clear h21
                    go_wp2_with fail
                    refine (HA.out w21).mono ?_
                    rintro e' wz ⟨rfl, hz⟩
                    have BZ := Lib.hid (below_then B21.out hz)
                    try have tBZ := T.below BZ.out
                    clear hz
                    go_wp2
                    go_ret
                    exact ⟨rfl, BZ.out⟩
                · clear y1
                  go_wp2_with fail
                  refine (HKI.out _ wk U16.out).mono ?_
                  rintro e' w16 ⟨rfl, h16⟩
                  have HB16 := Lib.hid h16
                  try have tHB16 := T.below HB16.out
                  have B16 := Lib.hid (below_then HB0.out h16)
                  try have tB16 := T.below B16.out
                  have Q17 := Lib.hid (Q16.out.below h16)
                  clear h16
                  by_cases hT : nT = 0
                  · have n1 : ((nT : Int) == 0) = true := by simp [hT]
                    have HT0 := Lib.hid hT
                    try have tHT0 := T.below HT0.out
                    clear hT
                    go_wp2_with fail
                    refine (HA.out w16).mono ?_
                    rintro e' wz ⟨rfl, hz⟩
                    have BZ := Lib.hid (below_then B16.out hz)
                    try have tBZ := T.below BZ.out
                    clear hz
                    go_wp2
                    go_ret
                    exact ⟨rfl, BZ.out⟩
                  · have n1 : ((nT : Int) == 0) = false := by rw [beq_eq_false_iff_ne]; omega
                    have hpp := HPP.out
                    obtain ⟨r1, r2, r3, _⟩ := rem_i64 (s := p) (n := (nT : Int)) hpp.1 hpp.2 (by omega)
                    obtain ⟨r, hr⟩ : ∃ r : Nat, p % (nT : Int) = (r : Int) := ⟨(p % (nT : Int)).toNat, by omega⟩
                    rw [hr] at r1 r2 r3
                    have hrT : r < (tagsN l l.length).length := by rw [HNT.out]; omega
                    obtain ⟨j, hj1, hj2, hj3⟩ := tagsN_mem hrT
                    have HNLj := Lib.hid (HNL.out j hj2 hj3)
                    obtain ⟨g, cap, hform, hgb, hglt⟩ : ∃ g cap, Value.slice ta nT tc = .slice (some ⟨g, 0, none⟩) nT cap ∧ w15.heap.size ≤ g ∧ g < wk.heap.size := by
                      rcases HO2.out.2 with ⟨h1, h2⟩ | ⟨g, cap, cur, h1, h2, h3, _⟩
                      · exact absurd h2 hT
                      · exact ⟨g, cap, h1, h2, (Array.getElem?_eq_some_iff.1 h3).1⟩
                    cases hform
                    have t1 := World.ownsRow.cellAt HO2.out r (by omega)
                    rw [List.getElem?_map, List.getElem?_eq_getElem hrT, hj1] at t1
                    replace t1 : wk.cell? ⟨g, r, none⟩ = some (.int .i64 (j : Int)) := t1
                    have t2 := (HB16.out.cell (p := ⟨g, r, none⟩) hglt).trans t1
                    have hwp : IntKind.i64.wrap p = p := IntWalk.i64_in _ (by omega)
                    have hj0 : (0 : Int) ≤ (j : Int) := by omega
                    have hj4 : (j : Int) < (l.length : Int) := by omega
                    have hnz : ¬ (nT : Int) = 0 := by omega
                    have HT0 := Lib.hid hT
                    try have tHT0 := T.below HT0.out
                    have HJ := Lib.hid hj2
                    try have tHJ := T.below HJ.out
                    have HC17 := Lib.hid (HCL.out w16 (HV.out.below B16.out))
                    clear hT hpp hr hrT hj1 hj2 hj3 t1 hgb
                    go_wp2_with fail
                    refine HC17.out.mono ?_
                    rintro e' w18 ⟨u18, rfl, hu, h18⟩
                    have B18 := Lib.hid (below_then B16.out h18)
                    try have tB18 := T.below B18.out
                    have Q18 := Lib.hid (Q17.out.below h18)
                    obtain ⟨g2, cap2, e18, hb18, hg18⟩ := hu.form (show 0 < l.length by omega)
                    subst e18
                    obtain ⟨b', off', e', _, f1, f2, f3, f4⟩ := hu.lex.elem HJ.out
                    cases e'
                    rw [Nat.zero_add] at f1 f2 f3 f4
                    have z0 := World.ownsRow.frozenAt hu (j * 4)
                    have z1 := World.ownsRow.frozenAt hu (j * 4 + 1)
                    have z2 := World.ownsRow.frozenAt hu (j * 4 + 2)
                    have z3 := World.ownsRow.frozenAt hu (j * 4 + 3)
                    obtain ⟨b', off', e', hlb, v1, v2, v3, v4⟩ := Q18.out.elem (show 0 < [lbX].length by decide)
                    cases e'
                    rw [Nat.zero_mul, Nat.zero_add] at v1 v2 v3 v4
                    replace v1 : w18.cell? ⟨w4.heap.size, 0, none⟩ = some (.int .i64 4) := v1
                    replace v2 : w18.cell? ⟨w4.heap.size, 1, none⟩ = some (.string ⟨#[108, 98]⟩) := v2
                    replace v3 : w18.cell? ⟨w4.heap.size, 2, none⟩ = some (.string ⟨#[]⟩) := v3
                    replace v4 : w18.cell? ⟨w4.heap.size, 3, none⟩ = some (.int .i64 0) := v4
                    have hput : OwnX w16.heap.size ((((w18.setCell ⟨g2, j * 4, none⟩ (.int .i64 4)).setCell ⟨g2, j * 4 + 1, none⟩ (.string ⟨#[108, 98]⟩)).setCell ⟨g2, j * 4 + 2, none⟩ (.string ⟨#[]⟩)).setCell ⟨g2, j * 4 + 3, none⟩ (.int .i64 0)) (.slice (some ⟨g2, 0, none⟩) l.length cap2) (l.set j lbX) ∧ Below w16.heap.size w18 ((((w18.setCell ⟨g2, j * 4, none⟩ (.int .i64 4)).setCell ⟨g2, j * 4 + 1, none⟩ (.string ⟨#[108, 98]⟩)).setCell ⟨g2, j * 4 + 2, none⟩ (.string ⟨#[]⟩)).setCell ⟨g2, j * 4 + 3, none⟩ (.int .i64 0)) := hu.put HJ.out lbX
                    obtain ⟨w19, hw19⟩ : ∃ x, ((((w18.setCell ⟨g2, j * 4, none⟩ (.int .i64 4)).setCell ⟨g2, j * 4 + 1, none⟩ (.string ⟨#[108, 98]⟩)).setCell ⟨g2, j * 4 + 2, none⟩ (.string ⟨#[]⟩)).setCell ⟨g2, j * 4 + 3, none⟩ (.int .i64 0)) = x := ⟨_, rfl⟩
                    rw [hw19] at hput
                    have HW19 := Lib.hid hw19
                    try have tHW19 := T.below HW19.out
                    have HA19 := Lib.hid (HAL.out j _ w19 hput.1.lex)
                    have B19 := Lib.hid (below_then B16.out (h18.trans hput.2))
                    try have tB19 := T.below B19.out
                    clear hu h18 hb18 hlb hput hw19
                    go_wp2_with fail
                    rw [HW19.out]
                    refine HA19.out.mono ?_
                    rintro e' w20 ⟨u20, rfl, hu, h20⟩
                    have B20 := Lib.hid (below_then B19.out h20)
                    try have tB20 := T.below B20.out
                    have HN20 := Lib.hid (HNLj.out _ w20 hu)
                    clear h20 hu f1 f2 f3 f4 z0 z1 z2 z3 v1 v2 v3 v4 t2
                    go_wp2_with fail
                    refine HN20.out.mono ?_
                    rintro e' w21 ⟨rfl, h21⟩
                    have B21 := Lib.hid (below_then B20.out h21)
                    try have tB21 := T.below B21.out
                    clear h21
                    go_wp2_with fail
                    refine (HA.out w21).mono ?_
                    rintro e' wz ⟨rfl, hz⟩
                    have BZ := Lib.hid (below_then B21.out hz)
                    try have tBZ := T.below BZ.out
                    clear hz
                    go_wp2
                    go_ret
                    exact ⟨rfl, BZ.out⟩
          · have HFI := Lib.hid c1
            clear c1
            go_wp2_with fail
            have q11 := lex_lit w9 [unO] #[intV 2, .string ⟨#[117, 110, 99, 108, 101, 97, 114]⟩, .string ⟨#[]⟩, intV 0] rfl (by decide)
            have b11 := alloc_below w9 (.cells #[intV 2, .string ⟨#[117, 110, 99, 108, 101, 97, 114]⟩, .string ⟨#[]⟩, intV 0] 36)
            obtain ⟨w11, hw11⟩ : ∃ x, w9.alloc (.cells #[intV 2, .string ⟨#[117, 110, 99, 108, 101, 97, 114]⟩, .string ⟨#[]⟩, intV 0] 36) = x := ⟨_, rfl⟩
            have s11 : w11.heap.size = w9.heap.size + 1 := by rw [← hw11]; simp
            rw [hw11] at q11 b11
            have q12 := lex_lit w11 [unC] #[intV 3, .string ⟨#[117, 110, 99, 108, 101, 97, 114]⟩, .string ⟨#[]⟩, intV 0] rfl (by decide)
            have b12 := alloc_below w11 (.cells #[intV 3, .string ⟨#[117, 110, 99, 108, 101, 97, 114]⟩, .string ⟨#[]⟩, intV 0] 36)
            obtain ⟨w12, hw12⟩ : ∃ x, w11.alloc (.cells #[intV 3, .string ⟨#[117, 110, 99, 108, 101, 97, 114]⟩, .string ⟨#[]⟩, intV 0] 36) = x := ⟨_, rfl⟩
            have s12 : w12.heap.size = w9.heap.size + 1 + 1 := by rw [← hw12]; simp [s11]
            rw [hw12] at q12 b12
            have B12 := Lib.hid (below_then B9.out (below_then b11 b12))
            try have tB12 := T.below B12.out
            have Q12 := Lib.hid (Q9.out.below (below_then b11 b12))
            try have tQ12 := T.below Q12.out
            have hl12 := ll_lit w12 [.slice (some ⟨w9.heap.size, 0, none⟩) 1 1, .slice a l.length ca, .slice (some ⟨w11.heap.size, 0, none⟩) 1 1] [[unO], l, [unC]] rfl (fun j hj => by
              match j, hj with
              | 0, _ => exact q11.lex.below b12
              | 1, _ => exact HV.out.below B12.out
              | 2, _ => exact q12.lex)
            have b13 := alloc_below w12 (.cells #[.slice (some ⟨w9.heap.size, 0, none⟩) 1 1, .slice a l.length ca, .slice (some ⟨w11.heap.size, 0, none⟩) 1 1] 22)
            rw [s12, s11] at hl12
            rw [s11] at b13
            have B13 := Lib.hid (below_then B12.out b13)
            try have tB13 := T.below B13.out
            have Q13 := Lib.hid (Q12.out.below b13)
            have HC13 := Lib.hid (HCI.out _ _ hl12)
            clear q11 b11 q12 b12 hl12 b13
            rw [hw11, hw12]
            refine HC13.out.mono ?_
            rintro e' w14 ⟨u14, rfl, hu, h14⟩
            have B14 := Lib.hid (below_then B13.out h14)
            try have tB14 := T.below B14.out
            have Q14 := Lib.hid (Q13.out.below h14)
            have U14 := Lib.hid hu.lex
            clear h14 hu hw11 hw12 s11 s12
            go_wp2_with fail
            refine (HAI.out _ w14 U14.out).mono ?_
            rintro e' w15 ⟨u15, rfl, hu, h15⟩
            have B15 := Lib.hid (below_then B14.out h15)
            try have tB15 := T.below B15.out
            have Q15 := Lib.hid (Q14.out.below h15)
            have U15 := Lib.hid hu
            try have tU15 := T.below U15.out
            clear h15 hu
            go_wp2
            go_loopw [10, 11, 12, 60] (fun dv mv tv iv wr => ∃ (k : Nat) (x mo : Int), k ≤ l.length ∧ iv = .int .i64 k ∧ dv = .int .i64 x ∧ mv = .int .i64 mo ∧ Hid (mostI 0 0 l = mostI x mo (l.drop k)) ∧ (-(k : Int) ≤ x ∧ x ≤ k ∧ 0 ≤ mo ∧ mo ≤ k) ∧ wr.ownsRow w15.heap.size 3 1 tv (tagsN l k).length ((tagsN l k).map intV) ∧ Below w15.heap.size w15 wr) (fun _ _ _ iv _ => l.length - (intOf iv).toNat)
            case atStart => exact ⟨0, 0, 0, Nat.zero_le _, rfl, rfl, rfl, Lib.hid rfl, by omega, World.ownsRow_nil _ _ _ _, Below.refl _ _⟩
            case round =>
              obtain ⟨k, x, mo, hk, rfl, rfl, rfl, HMI, ⟨x1, x2, m1, m2⟩, ho, hB⟩ := hrel
              obtain ⟨wk, rfl⟩ : ∃ x, x = wr := ⟨_, rfl⟩
              try have twk : T wk := T.below hB
              have HO := Lib.hid ho
              try have tHO := T.below HO.out
              have HB := Lib.hid hB
              try have tHB := T.below HB.out
              have hWk := below_then B15.out hB
              by_cases hlt : k < l.length
              · obtain ⟨bb, off, rfl, hbb, c1, c2, c3, c4⟩ := HV.out.elem hlt
                have d1 := (hWk.cell (p := ⟨bb, off + k * 4, none⟩) hbb).trans c1
                have d2 := (hWk.cell (p := ⟨bb, off + k * 4 + 1, none⟩) hbb).trans c2
                have d3 := (hWk.cell (p := ⟨bb, off + k * 4 + 2, none⟩) hbb).trans c3
                have d4 := (hWk.cell (p := ⟨bb, off + k * 4 + 3, none⟩) hbb).trans c4
                have hms := most_step hlt x mo
                have hty := fun h => tagsN_yes hlt h
                have htn := fun h => tagsN_no hlt h
                obtain ⟨y, hy⟩ : ∃ y, l[k] = y := ⟨_, rfl⟩
                rw [hy] at d1 d2 d3 d4 hms hty htn
                obtain ⟨kk, n, vv, oo⟩ := y
                simp only at d1 d2 d3 d4 hty htn
                have HBX := Lib.hid (fun o => (hB.alloc hB.size o : Below w15.heap.size w15 (wk.alloc o)))
                have tl := tagsN_len l k
                have ib0 : (0 : Int) ≤ (k : Int) := by omega
                have ib1 : (k : Int) < (l.length : Int) := by omega
                by_cases hk2 : kk = 2
                · have q2 : (kk == 2) = true := by simp [hk2]
                  have hst : stepD x ⟨kk, n, vv, oo⟩ = x + 1 := by unfold stepD; rw [if_pos hk2]
                  rw [hst] at hms
                  have HMS := Lib.hid hms
                  have HT := Lib.hid (hty (.inl hk2))
                  obtain ⟨x', hx'⟩ : ∃ z, x + 1 = z := ⟨_, rfl⟩
                  rw [hx'] at HMS
                  have hwx : IntKind.i64.wrap (x + 1) = x' := by rw [← hx']; exact IntWalk.i64_in _ (by omega)
                  have hb1 : -((k + 1 : Nat) : Int) ≤ x' ∧ x' ≤ ((k + 1 : Nat) : Int) := by omega
                  have HB1 := Lib.hid hb1
                  try have tHB1 := T.below HB1.out
                  have HK2 := Lib.hid hk2
                  try have tHK2 := T.below HK2.out
                  clear hms hty htn hst ho hB hWk c1 c2 c3 c4 hy hbb hx' hb1 hk2
                  go_wp2_with (at_builtin; refine wpList_append_own _ rfl _ _ 45 rfl w15.heap.size 3 i0 (.int .i64 0) 1 8 Tryd.underlying45 hi hz0 hz1 hz2 rfl (by decide) _ _ _ rfl ((HO.out.alloc _).alloc _) ⟨wk.heap.size + 1, 0, none⟩ 1 1 [intV k] rfl rfl (one_news _ _ _ _ (by simp)) (by simp [Value.oneCell']) (by unfold maxLen; omega) (by omega) (by have := HB.out.size; simp; omega) ?_; intro v' w3 hown' hgrow hnn; clear hnn; have HO3 := Lib.hid hown'; have HB3 := Lib.hid (((HB.out.alloc HB.out.size _).alloc (by have := HB.out.size; simp; omega) _).grown hgrow (by have := HB.out.size; simp; omega) (fun q hq => (HO.out.lt q hq).1)); clear hown' hgrow)
                  go_roundw
                  case rel => exact ⟨k + 1, x', max mo x', by omega, by go_num, rfl, rfl, Lib.hid (by rw [HMI.out, HMS.out]), by have := HB1.out; omega, by rw [HT.out, List.length_append, List.map_append]; exact HO3.out, HB3.out⟩
                  case measure => simp [intOf]; omega
                · have q2 : (kk == 2) = false := by simpa using hk2
                  by_cases hk3 : kk = 3
                  · have q3 : (kk == 3) = true := by simp [hk3]
                    have hst : stepD x ⟨kk, n, vv, oo⟩ = x - 1 := by unfold stepD; rw [if_neg hk2, if_pos hk3]
                    rw [hst] at hms
                    have HMS := Lib.hid hms
                    have HT := Lib.hid (hty (.inr hk3))
                    obtain ⟨x', hx'⟩ : ∃ z, x - 1 = z := ⟨_, rfl⟩
                    rw [hx'] at HMS
                    have hwx : IntKind.i64.wrap (x - 1) = x' := by rw [← hx']; exact IntWalk.i64_in _ (by omega)
                    have hb1 : -((k + 1 : Nat) : Int) ≤ x' ∧ x' ≤ ((k + 1 : Nat) : Int) := by omega
                    have HB1 := Lib.hid hb1
                    try have tHB1 := T.below HB1.out
                    have HK2 := Lib.hid hk2
                    try have tHK2 := T.below HK2.out
                    have HK3 := Lib.hid hk3
                    try have tHK3 := T.below HK3.out
                    clear hms hty htn hst ho hB hWk c1 c2 c3 c4 hy hbb hx' hb1 hk2 hk3
                    go_wp2_with (at_builtin; refine wpList_append_own _ rfl _ _ 45 rfl w15.heap.size 3 i0 (.int .i64 0) 1 8 Tryd.underlying45 hi hz0 hz1 hz2 rfl (by decide) _ _ _ rfl ((HO.out.alloc _).alloc _) ⟨wk.heap.size + 1, 0, none⟩ 1 1 [intV k] rfl rfl (one_news _ _ _ _ (by simp)) (by simp [Value.oneCell']) (by unfold maxLen; omega) (by omega) (by have := HB.out.size; simp; omega) ?_; intro v' w3 hown' hgrow hnn; clear hnn; have HO3 := Lib.hid hown'; have HB3 := Lib.hid (((HB.out.alloc HB.out.size _).alloc (by have := HB.out.size; simp; omega) _).grown hgrow (by have := HB.out.size; simp; omega) (fun q hq => (HO.out.lt q hq).1)); clear hown' hgrow)
                    go_roundw
                    case rel => exact ⟨k + 1, x', max mo x', by omega, by go_num, rfl, rfl, Lib.hid (by rw [HMI.out, HMS.out]), by have := HB1.out; omega, by rw [HT.out, List.length_append, List.map_append]; exact HO3.out, HB3.out⟩
                    case measure => simp [intOf]; omega
                  · have q3 : (kk == 3) = false := by simpa using hk3
                    have hst : stepD x ⟨kk, n, vv, oo⟩ = x := by unfold stepD; rw [if_neg hk2, if_neg hk3]
                    rw [hst] at hms
                    have HMS := Lib.hid hms
                    have HT := Lib.hid (htn (fun h => h.elim hk2 hk3))
                    have HK2 := Lib.hid hk2
                    try have tHK2 := T.below HK2.out
                    have HK3 := Lib.hid hk3
                    try have tHK3 := T.below HK3.out
                    clear hms hty htn hst ho hB hWk c1 c2 c3 c4 hy hbb hk2 hk3
                    go_wp2
                    go_roundw
                    case rel => exact ⟨k + 1, x, max mo x, by omega, by go_num, rfl, rfl, Lib.hid (by rw [HMI.out, HMS.out]), by omega, by rw [HT.out]; exact HO.out.alloc _, HBX.out _⟩
                    case measure => simp [intOf]; omega
              · obtain rfl : k = l.length := by omega
                have hmo : mostI 0 0 l = mo := by
                  have := HMI.out
                  rw [List.drop_length] at this
                  exact this
                have HMI2 := Lib.hid hmo
                clear hmo
                have hsml : l.length ≤ 24 := llen
                obtain ⟨nT, hnT⟩ : ∃ n, (tagsN l l.length).length = n := ⟨_, rfl⟩
                have htl := tagsN_len l l.length
                rw [hnT] at ho htl
                obtain ⟨ta, tc, rfl⟩ : ∃ a c, u12 = .slice a nT c := by
                  rcases ho.2 with ⟨h1, h2⟩ | ⟨g, cap, cur, h1, _⟩
                  · exact ⟨none, 0, by rw [h1, h2]⟩
                  · exact ⟨_, _, h1⟩
                have HO2 := Lib.hid ho
                try have tHO2 := T.below HO2.out
                have HNT := Lib.hid hnT
                have HB0 := Lib.hid (below_then B15.out hB)
                try have tHB0 := T.below HB0.out
                have U16 := Lib.hid (U15.out.below hB)
                have Q16 := Lib.hid (Q15.out.below hB)
                clear ho hB hnT HO HB
                obtain ⟨q, hq⟩ : ∃ q, decide (mo < 16) = q := ⟨_, rfl⟩
                rcases HDD.out with ⟨y1, y2⟩ | ⟨y1, y2⟩
                · have hfm : (f == 0) = q := by rw [HMO.out y1, HMI2.out, hq]
                  clear y1
                  go_wp2_with fail
                  refine (HKI.out _ wk U16.out).mono ?_
                  rintro e' w16 ⟨rfl, h16⟩
                  have HB16 := Lib.hid h16
                  try have tHB16 := T.below HB16.out
                  have B16 := Lib.hid (below_then HB0.out h16)
                  try have tB16 := T.below B16.out
                  have Q17 := Lib.hid (Q16.out.below h16)
                  clear h16
                  have U17 := Lib.hid (U16.out.below HB16.out)
                  go_wp2_with fail
                  refine (HNI.out _ w16 U17.out).mono ?_
                  rintro e' w17 ⟨rfl, h17⟩
                  have HB17 := Lib.hid (below_then HB16.out h17)
                  try have tHB17 := T.below HB17.out
                  have B17 := Lib.hid (below_then B16.out h17)
                  try have tB17 := T.below B17.out
                  have Q19 := Lib.hid (Q17.out.below h17)
                  clear h17
                  by_cases hT : nT = 0
                  · have n1 : ((nT : Int) == 0) = true := by simp [hT]
                    have HT0 := Lib.hid hT
                    try have tHT0 := T.below HT0.out
                    clear hT
                    go_wp2_with fail
                    refine (HA.out w17).mono ?_
                    rintro e' wz ⟨rfl, hz⟩
                    have BZ := Lib.hid (below_then B17.out hz)
                    try have tBZ := T.below BZ.out
                    clear hz
                    go_wp2
                    go_ret
                    exact ⟨rfl, BZ.out⟩
                  · have n1 : ((nT : Int) == 0) = false := by rw [beq_eq_false_iff_ne]; omega
                    have hpp := HPP.out
                    obtain ⟨r1, r2, r3, _⟩ := rem_i64 (s := p) (n := (nT : Int)) hpp.1 hpp.2 (by omega)
                    obtain ⟨r, hr⟩ : ∃ r : Nat, p % (nT : Int) = (r : Int) := ⟨(p % (nT : Int)).toNat, by omega⟩
                    rw [hr] at r1 r2 r3
                    have hrT : r < (tagsN l l.length).length := by rw [HNT.out]; omega
                    obtain ⟨j, hj1, hj2, hj3⟩ := tagsN_mem hrT
                    have HNLj := Lib.hid (HNL.out j hj2 hj3)
                    obtain ⟨g, cap, hform, hgb, hglt⟩ : ∃ g cap, Value.slice ta nT tc = .slice (some ⟨g, 0, none⟩) nT cap ∧ w15.heap.size ≤ g ∧ g < wk.heap.size := by
                      rcases HO2.out.2 with ⟨h1, h2⟩ | ⟨g, cap, cur, h1, h2, h3, _⟩
                      · exact absurd h2 hT
                      · exact ⟨g, cap, h1, h2, (Array.getElem?_eq_some_iff.1 h3).1⟩
                    cases hform
                    have t1 := World.ownsRow.cellAt HO2.out r (by omega)
                    rw [List.getElem?_map, List.getElem?_eq_getElem hrT, hj1] at t1
                    replace t1 : wk.cell? ⟨g, r, none⟩ = some (.int .i64 (j : Int)) := t1
                    have t2 := (HB17.out.cell (p := ⟨g, r, none⟩) hglt).trans t1
                    have hwp : IntKind.i64.wrap p = p := IntWalk.i64_in _ (by omega)
                    have hj0 : (0 : Int) ≤ (j : Int) := by omega
                    have hj4 : (j : Int) < (l.length : Int) := by omega
                    have hnz : ¬ (nT : Int) = 0 := by omega
                    have HT0 := Lib.hid hT
                    try have tHT0 := T.below HT0.out
                    have HJ := Lib.hid hj2
                    try have tHJ := T.below HJ.out
                    have HC17 := Lib.hid (HCL.out w17 (HV.out.below B17.out))
                    clear hT hpp hr hrT hj1 hj2 hj3 t1 hgb
                    go_wp2_with fail
                    refine HC17.out.mono ?_
                    rintro e' w18 ⟨u18, rfl, hu, h18⟩
                    have B18 := Lib.hid (below_then B17.out h18)
                    try have tB18 := T.below B18.out
                    have Q18 := Lib.hid (Q19.out.below h18)
                    obtain ⟨g2, cap2, e18, hb18, hg18⟩ := hu.form (show 0 < l.length by omega)
                    subst e18
                    obtain ⟨b', off', e', _, f1, f2, f3, f4⟩ := hu.lex.elem HJ.out
                    cases e'
                    rw [Nat.zero_add] at f1 f2 f3 f4
                    have z0 := World.ownsRow.frozenAt hu (j * 4)
                    have z1 := World.ownsRow.frozenAt hu (j * 4 + 1)
                    have z2 := World.ownsRow.frozenAt hu (j * 4 + 2)
                    have z3 := World.ownsRow.frozenAt hu (j * 4 + 3)
                    obtain ⟨b', off', e', hlb, v1, v2, v3, v4⟩ := Q18.out.elem (show 0 < [lbX].length by decide)
                    cases e'
                    rw [Nat.zero_mul, Nat.zero_add] at v1 v2 v3 v4
                    replace v1 : w18.cell? ⟨w4.heap.size, 0, none⟩ = some (.int .i64 4) := v1
                    replace v2 : w18.cell? ⟨w4.heap.size, 1, none⟩ = some (.string ⟨#[108, 98]⟩) := v2
                    replace v3 : w18.cell? ⟨w4.heap.size, 2, none⟩ = some (.string ⟨#[]⟩) := v3
                    replace v4 : w18.cell? ⟨w4.heap.size, 3, none⟩ = some (.int .i64 0) := v4
                    have hput : OwnX w17.heap.size ((((w18.setCell ⟨g2, j * 4, none⟩ (.int .i64 4)).setCell ⟨g2, j * 4 + 1, none⟩ (.string ⟨#[108, 98]⟩)).setCell ⟨g2, j * 4 + 2, none⟩ (.string ⟨#[]⟩)).setCell ⟨g2, j * 4 + 3, none⟩ (.int .i64 0)) (.slice (some ⟨g2, 0, none⟩) l.length cap2) (l.set j lbX) ∧ Below w17.heap.size w18 ((((w18.setCell ⟨g2, j * 4, none⟩ (.int .i64 4)).setCell ⟨g2, j * 4 + 1, none⟩ (.string ⟨#[108, 98]⟩)).setCell ⟨g2, j * 4 + 2, none⟩ (.string ⟨#[]⟩)).setCell ⟨g2, j * 4 + 3, none⟩ (.int .i64 0)) := hu.put HJ.out lbX
                    obtain ⟨w19, hw19⟩ : ∃ x, ((((w18.setCell ⟨g2, j * 4, none⟩ (.int .i64 4)).setCell ⟨g2, j * 4 + 1, none⟩ (.string ⟨#[108, 98]⟩)).setCell ⟨g2, j * 4 + 2, none⟩ (.string ⟨#[]⟩)).setCell ⟨g2, j * 4 + 3, none⟩ (.int .i64 0)) = x := ⟨_, rfl⟩
                    rw [hw19] at hput
                    have HW19 := Lib.hid hw19
                    try have tHW19 := T.below HW19.out
                    have HA19 := Lib.hid (HAL.out j _ w19 hput.1.lex)
                    have B19 := Lib.hid (below_then B17.out (h18.trans hput.2))
                    try have tB19 := T.below B19.out
                    clear hu h18 hb18 hlb hput hw19
                    go_wp2_with fail
                    rw [HW19.out]
                    refine HA19.out.mono ?_
                    rintro e' w20 ⟨u20, rfl, hu, h20⟩
                    have B20 := Lib.hid (below_then B19.out h20)
                    try have tB20 := T.below B20.out
                    have HN20 := Lib.hid (HNLj.out _ w20 hu)
                    clear h20 hu f1 f2 f3 f4 z0 z1 z2 z3 v1 v2 v3 v4 t2
                    go_wp2_with fail
                    refine HN20.out.mono ?_
                    rintro e' w21 ⟨rfl, h21⟩
                    have B21 := Lib.hid (below_then B20.out h21)
                    try have tB21 := T.below B21.out
                    clear h21
                    go_wp2_with fail
                    refine (HA.out w21).mono ?_
                    rintro e' wz ⟨rfl, hz⟩
                    have BZ := Lib.hid (below_then B21.out hz)
                    try have tBZ := T.below BZ.out
                    clear hz
                    go_wp2
                    go_ret
                    exact ⟨rfl, BZ.out⟩
                · clear y1
                  go_wp2_with fail
                  refine (HKI.out _ wk U16.out).mono ?_
                  rintro e' w16 ⟨rfl, h16⟩
                  have HB16 := Lib.hid h16
                  try have tHB16 := T.below HB16.out
                  have B16 := Lib.hid (below_then HB0.out h16)
                  try have tB16 := T.below B16.out
                  have Q17 := Lib.hid (Q16.out.below h16)
                  clear h16
                  by_cases hT : nT = 0
                  · have n1 : ((nT : Int) == 0) = true := by simp [hT]
                    have HT0 := Lib.hid hT
                    try have tHT0 := T.below HT0.out
                    clear hT
                    go_wp2_with fail
                    refine (HA.out w16).mono ?_
                    rintro e' wz ⟨rfl, hz⟩
                    have BZ := Lib.hid (below_then B16.out hz)
                    try have tBZ := T.below BZ.out
                    clear hz
                    go_wp2
                    go_ret
                    exact ⟨rfl, BZ.out⟩
                  · have n1 : ((nT : Int) == 0) = false := by rw [beq_eq_false_iff_ne]; omega
                    have hpp := HPP.out
                    obtain ⟨r1, r2, r3, _⟩ := rem_i64 (s := p) (n := (nT : Int)) hpp.1 hpp.2 (by omega)
                    obtain ⟨r, hr⟩ : ∃ r : Nat, p % (nT : Int) = (r : Int) := ⟨(p % (nT : Int)).toNat, by omega⟩
                    rw [hr] at r1 r2 r3
                    have hrT : r < (tagsN l l.length).length := by rw [HNT.out]; omega
                    obtain ⟨j, hj1, hj2, hj3⟩ := tagsN_mem hrT
                    have HNLj := Lib.hid (HNL.out j hj2 hj3)
                    obtain ⟨g, cap, hform, hgb, hglt⟩ : ∃ g cap, Value.slice ta nT tc = .slice (some ⟨g, 0, none⟩) nT cap ∧ w15.heap.size ≤ g ∧ g < wk.heap.size := by
                      rcases HO2.out.2 with ⟨h1, h2⟩ | ⟨g, cap, cur, h1, h2, h3, _⟩
                      · exact absurd h2 hT
                      · exact ⟨g, cap, h1, h2, (Array.getElem?_eq_some_iff.1 h3).1⟩
                    cases hform
                    have t1 := World.ownsRow.cellAt HO2.out r (by omega)
                    rw [List.getElem?_map, List.getElem?_eq_getElem hrT, hj1] at t1
                    replace t1 : wk.cell? ⟨g, r, none⟩ = some (.int .i64 (j : Int)) := t1
                    have t2 := (HB16.out.cell (p := ⟨g, r, none⟩) hglt).trans t1
                    have hwp : IntKind.i64.wrap p = p := IntWalk.i64_in _ (by omega)
                    have hj0 : (0 : Int) ≤ (j : Int) := by omega
                    have hj4 : (j : Int) < (l.length : Int) := by omega
                    have hnz : ¬ (nT : Int) = 0 := by omega
                    have HT0 := Lib.hid hT
                    try have tHT0 := T.below HT0.out
                    have HJ := Lib.hid hj2
                    try have tHJ := T.below HJ.out
                    have HC17 := Lib.hid (HCL.out w16 (HV.out.below B16.out))
                    clear hT hpp hr hrT hj1 hj2 hj3 t1 hgb
                    go_wp2_with fail
                    refine HC17.out.mono ?_
                    rintro e' w18 ⟨u18, rfl, hu, h18⟩
                    have B18 := Lib.hid (below_then B16.out h18)
                    try have tB18 := T.below B18.out
                    have Q18 := Lib.hid (Q17.out.below h18)
                    obtain ⟨g2, cap2, e18, hb18, hg18⟩ := hu.form (show 0 < l.length by omega)
                    subst e18
                    obtain ⟨b', off', e', _, f1, f2, f3, f4⟩ := hu.lex.elem HJ.out
                    cases e'
                    rw [Nat.zero_add] at f1 f2 f3 f4
                    have z0 := World.ownsRow.frozenAt hu (j * 4)
                    have z1 := World.ownsRow.frozenAt hu (j * 4 + 1)
                    have z2 := World.ownsRow.frozenAt hu (j * 4 + 2)
                    have z3 := World.ownsRow.frozenAt hu (j * 4 + 3)
                    obtain ⟨b', off', e', hlb, v1, v2, v3, v4⟩ := Q18.out.elem (show 0 < [lbX].length by decide)
                    cases e'
                    rw [Nat.zero_mul, Nat.zero_add] at v1 v2 v3 v4
                    replace v1 : w18.cell? ⟨w4.heap.size, 0, none⟩ = some (.int .i64 4) := v1
                    replace v2 : w18.cell? ⟨w4.heap.size, 1, none⟩ = some (.string ⟨#[108, 98]⟩) := v2
                    replace v3 : w18.cell? ⟨w4.heap.size, 2, none⟩ = some (.string ⟨#[]⟩) := v3
                    replace v4 : w18.cell? ⟨w4.heap.size, 3, none⟩ = some (.int .i64 0) := v4
                    have hput : OwnX w16.heap.size ((((w18.setCell ⟨g2, j * 4, none⟩ (.int .i64 4)).setCell ⟨g2, j * 4 + 1, none⟩ (.string ⟨#[108, 98]⟩)).setCell ⟨g2, j * 4 + 2, none⟩ (.string ⟨#[]⟩)).setCell ⟨g2, j * 4 + 3, none⟩ (.int .i64 0)) (.slice (some ⟨g2, 0, none⟩) l.length cap2) (l.set j lbX) ∧ Below w16.heap.size w18 ((((w18.setCell ⟨g2, j * 4, none⟩ (.int .i64 4)).setCell ⟨g2, j * 4 + 1, none⟩ (.string ⟨#[108, 98]⟩)).setCell ⟨g2, j * 4 + 2, none⟩ (.string ⟨#[]⟩)).setCell ⟨g2, j * 4 + 3, none⟩ (.int .i64 0)) := hu.put HJ.out lbX
                    obtain ⟨w19, hw19⟩ : ∃ x, ((((w18.setCell ⟨g2, j * 4, none⟩ (.int .i64 4)).setCell ⟨g2, j * 4 + 1, none⟩ (.string ⟨#[108, 98]⟩)).setCell ⟨g2, j * 4 + 2, none⟩ (.string ⟨#[]⟩)).setCell ⟨g2, j * 4 + 3, none⟩ (.int .i64 0)) = x := ⟨_, rfl⟩
                    rw [hw19] at hput
                    have HW19 := Lib.hid hw19
                    try have tHW19 := T.below HW19.out
                    have HA19 := Lib.hid (HAL.out j _ w19 hput.1.lex)
                    have B19 := Lib.hid (below_then B16.out (h18.trans hput.2))
                    try have tB19 := T.below B19.out
                    clear hu h18 hb18 hlb hput hw19
                    go_wp2_with fail
                    rw [HW19.out]
                    refine HA19.out.mono ?_
                    rintro e' w20 ⟨u20, rfl, hu, h20⟩
                    have B20 := Lib.hid (below_then B19.out h20)
                    try have tB20 := T.below B20.out
                    have HN20 := Lib.hid (HNLj.out _ w20 hu)
                    clear h20 hu f1 f2 f3 f4 z0 z1 z2 z3 v1 v2 v3 v4 t2
                    go_wp2_with fail
                    refine HN20.out.mono ?_
                    rintro e' w21 ⟨rfl, h21⟩
                    have B21 := Lib.hid (below_then B20.out h21)
                    try have tB21 := T.below B21.out
                    clear h21
                    go_wp2_with fail
                    refine (HA.out w21).mono ?_
                    rintro e' wz ⟨rfl, hz⟩
                    have BZ := Lib.hid (below_then B21.out hz)
                    try have tBZ := T.below BZ.out
                    clear hz
                    go_wp2
                    go_ret
                    exact ⟨rfl, BZ.out⟩
        · have z3 : (e2 == 0) = false := by simpa using z2
          have z4 : (e2 != 0) = true := by simpa using z2
          clear hv hu hin hun hl hm hg1 hg2 hb1 hb2 hl1 hl2 he1 he2 z2
          go_enter Tryd.func7, Tryd.ntmps7
          go_wp2_with fail
          refine (HG1.out w HV.out).mono ?_
          rintro e' w1 ⟨rfl, h1⟩
          have B1 := Lib.hid h1
          try have tB1 := T.below B1.out
          clear h1
          go_wp2_with fail
          refine (HG2.out w1 (HU.out.below B1.out)).mono ?_
          rintro e' w2 ⟨rfl, h2⟩
          have B2 := Lib.hid (below_then B1.out h2)
          try have tB2 := T.below B2.out
          clear h2
          go_wp2_with fail
          refine (HN1.out w2 (HV.out.below B2.out)).mono ?_
          rintro e' w3 ⟨rfl, h3⟩
          have B3 := Lib.hid (below_then B2.out h3)
          try have tB3 := T.below B3.out
          clear h3
          go_wp2_with fail
          refine (HN2.out w3 (HU.out.below B3.out)).mono ?_
          rintro e' w4 ⟨rfl, h4⟩
          have B4 := Lib.hid (below_then B3.out h4)
          try have tB4 := T.below B4.out
          clear h4
          go_wp2_with fail
          refine (HA.out w4).mono ?_
          rintro e' wz ⟨rfl, hz⟩
          have BZ := Lib.hid (below_then B4.out hz)
          try have tBZ := T.below BZ.out
          clear hz
          go_wp2
          go_ret
          exact ⟨rfl, BZ.out⟩
      · have z3 : (e1 == 0) = false := by simpa using z1
        have z4 : (e1 != 0) = true := by simpa using z1
        clear hv hu hin hun hl hm hg1 hg2 hb1 hb2 hl1 hl2 he1 he2 z1
        go_enter Tryd.func7, Tryd.ntmps7
        go_wp2_with fail
        refine (HG1.out w HV.out).mono ?_
        rintro e' w1 ⟨rfl, h1⟩
        have B1 := Lib.hid h1
        try have tB1 := T.below B1.out
        clear h1
        go_wp2_with fail
        refine (HG2.out w1 (HU.out.below B1.out)).mono ?_
        rintro e' w2 ⟨rfl, h2⟩
        have B2 := Lib.hid (below_then B1.out h2)
        try have tB2 := T.below B2.out
        clear h2
        go_wp2_with fail
        refine (HN1.out w2 (HV.out.below B2.out)).mono ?_
        rintro e' w3 ⟨rfl, h3⟩
        have B3 := Lib.hid (below_then B2.out h3)
        try have tB3 := T.below B3.out
        clear h3
        go_wp2_with fail
        refine (HA.out w3).mono ?_
        rintro e' wz ⟨rfl, hz⟩
        have BZ := Lib.hid (below_then B3.out hz)
        try have tBZ := T.below BZ.out
        clear hz
        go_wp2
        go_ret
        exact ⟨rfl, BZ.out⟩
theorem nested_w (H : MkOk) (w : World) [T w] (v : Value) (l : List Lx) (u : Value) (m : List Lx) (p : Int) (hv : LexIn w v l) (hl : l.length ≤ maxLen) (hu : LexIn w u m) (hm : m.length ≤ maxLen) (hp : (Lit.int .u8 p).wf = true) :
    Calls Tryd.prog 7 #[v, u, .int .u8 p] w fun e w' => e = .returned (.bool true) ∧ Below w.heap.size w w' :=
  nested_law H l m p v u w hv hl hu hm (wf_u8 hp)
end Go.Proofs.YtdgihkgomfpmoaaDoor
