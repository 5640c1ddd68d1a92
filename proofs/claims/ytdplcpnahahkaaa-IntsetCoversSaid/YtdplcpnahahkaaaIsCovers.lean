/- IntsetCovers. -/
import Derived.Test.YtdplcpnahahkaaaIsCmp
namespace Go.Proofs.Ytdplcpnahahkaaa
set_option linter.unusedSimpArgs false
set_option linter.unusedVariables false
set_option maxRecDepth 100000
open Go.RowKit Go.Deep Go.Shelf

theorem fine_one (w : World) {u0 : Value} {x0 : List Int} (h0 : IntsAt w u0 x0) (r : Bool) (hr : decide (okL x0) = r) :
    Calls Try.prog 33 #[.slice (some ⟨w.heap.size, 0, none⟩) 1 1] (w.alloc (.cells #[u0] 22)) fun e w' => e = .returned (.bool r) ∧ Below w.heap.size w w' :=
  (fine_any [x0] r (by rw [← hr]; apply decide_eq_decide.2; simp) _ _ (lists_lit w [u0] [x0] rfl (fun j hj => by
    match j, hj with
    | 0, _ => exact h0)) (by simp [maxLen])).mono fun e w' ⟨h, m, hm⟩ => ⟨h, by rw [hm]; exact (alloc_below w _).trans (below_drewN_n _ _ _)⟩
theorem fine_at (L : List (List Int)) (r : Bool) (hr : decide (∀ l ∈ L, okL l) = r) (v : Value) (w : World) (hv : ListsAt w v L) (hl : L.length ≤ maxLen) :
    Calls Try.prog 33 #[v] w fun e w' => e = .returned (.bool r) ∧ Below w.heap.size w w' :=
  (fine_any L r hr v w hv hl).mono fun e w' ⟨h, m, hm⟩ => ⟨h, by rw [hm]; exact below_drewN _ _⟩
theorem two_cells (w : World) (a b : Value) (t1 t2 : TypeId) : ∃ W, (w.alloc (.cells #[a] t1)).alloc (.cells #[b] t2) = W ∧ W.cell? ⟨w.heap.size, 0, none⟩ = some a ∧ W.cell? ⟨w.heap.size + 1, 0, none⟩ = some b ∧ W.heap.size = w.heap.size + 2 ∧ Below w.heap.size w W := by
  refine ⟨_, rfl, ?_, ?_, by simp, ((Below.refl _ _).alloc (Nat.le_refl _) _).alloc (by simp) _⟩
  · exact cell_old1 (cell_new1 w a t1) (by simp) b t2
  · have h := cell_new1 (w.alloc (.cells #[a] t1)) b t2
    rw [World.size_alloc] at h
    exact h
/-- what Cover has answered, where it was asked for sets -/
theorem covP_fine {T : List Int} {L : List (List Int)} {r : List Int × Int} (h : CovP T L r) (hT : okL T) (hL : ∀ l ∈ L, okL l) (h16 : L.length ≤ 7) :
    (∃ c, Best T L c ∧ r = (upL c, 0)) ∨ ((∀ c, ¬ IsCov T L c) ∧ r = ([], 6)) := by
  rcases h with ⟨a, _⟩ | ⟨_, b, _⟩ | ⟨_, _, h⟩
  · omega
  · rcases b with b | ⟨l, h1, h2⟩
    · exact absurd hT.2 b
    · exact absurd (hL l h1).2 h2
  · exact h
theorem upL_up (c : List Nat) (n : Nat) (h : AscFrom n 0 c) (hn : n ≤ 64) : errL (upL c) = 0 := by
  have : ∀ (f : Nat) (c : List Nat), AscFrom n f c → ∀ p : Int, -1 ≤ p → p < f → errFrom p (upL c) = 0 := by
    intro f c
    induction c generalizing f with
    | nil => intros; rfl
    | cons i r ih =>
      rintro ⟨a, b, d⟩ p hp hpf
      show errFrom p ((i : Int) :: upL r) = 0
      rw [errFrom, if_neg (by omega), if_neg (by omega)]
      exact ih (i + 1) d i (by omega) (by omega)
  exact this 0 c h (-1) (by omega) (by omega)

set_option maxHeartbeats 8000000 in
theorem covers_law (w : World) (u0 : Value) (x0 : List Int) (u1 : Value) (x1 : List (List Int)) (a2 : Int) (w0 : IntsAt w u0 x0) (b0 : x0.length ≤ maxLen) (w1 : ListsN w u1 x1) (b1 : x1.length ≤ maxLen) (w2 : (Lit.int .u8 a2).wf = true) :
    Calls Try.prog 10 #[u0, u1, .int .u8 a2] w fun e w' => e = .returned (.bool true) ∧ Below w.heap.size w w' := by
  have hu8 : 0 ≤ a2 ∧ a2 ≤ 255 := by simpa [Lit.wf, IntKind.min, IntKind.max, IntKind.bits, IntKind.signed] using w2
  obtain ⟨u00, u01⟩ := hu8
  have hwa : IntKind.i64.wrap a2 = a2 := IntWalk.i64_in _ (by omega)
  obtain ⟨W0, hW0, c3, c4, hs0, hB0⟩ := two_cells w u0 u1 22 23
  have HT := Lib.hid (w0.below hB0)
  have HL := Lib.hid (w1.below hB0)
  have HB := Lib.hid hB0
  have HS := Lib.hid hs0
  obtain ⟨a0, c0, rfl, _⟩ := w0
  obtain ⟨a1, c1, rfl, _⟩ := w1
  have HC3 := Lib.hid c3
  have HC4 := Lib.hid c4
  clear w2 hB0 hs0
  by_cases h7 : 7 < x1.length
  · have h7' : (7 : Int) < (x1.length : Int) := by omega
    go_enter Try.func10, Try.ntmps10
    go_wp2_with fail
    refine (awake_any _).mono ?_
    rintro e v2 ⟨rfl, g2⟩
    have G2 := Lib.hid (HB.out.trans (g2.mono HB.out.size))
    clear g2
    go_wp2
    go_ret
    exact ⟨rfl, G2.out⟩
  · have h7' : (x1.length : Int) ≤ 7 := by omega
    obtain ⟨gr, hgr⟩ : ∃ g, greatL x1 = g := ⟨_, rfl⟩
    have HG := Lib.hid (greatLists_any x1 gr hgr _ W0 HL.out.lists)
    clear hgr
    go_enter Try.func10, Try.ntmps10
    go_wp2_with fail
    refine HG.out.mono ?_
    rintro e v2 ⟨rfl, rfl⟩
    clear HG hW0
    cases gr
    rotate_left
    · go_wp2_with fail
      refine (awake_any _).mono ?_
      rintro e v2 ⟨rfl, g2⟩
      have G2 := Lib.hid (HB.out.trans (g2.mono HB.out.size))
      clear g2
      go_wp2
      go_ret
      exact ⟨rfl, G2.out⟩
    · by_cases hok0 : okL x0
      rotate_left
      · have HF := Lib.hid (fine_one W0 HT.out false (by simpa using hok0))
        go_wp2_with fail
        refine HF.out.mono ?_
        rintro e v2 ⟨rfl, g1⟩
        have G1 := Lib.hid (HB.out.trans (g1.mono HB.out.size))
        clear g1 HF
        go_wp2_with fail
        refine (awake_any _).mono ?_
        rintro e v2 ⟨rfl, g2⟩
        have G2 := Lib.hid (G1.out.trans (g2.mono G1.out.size))
        clear g2
        go_wp2
        go_ret
        exact ⟨rfl, G2.out⟩
      · have HF := Lib.hid (fine_one W0 HT.out true (by simpa using hok0))
        go_wp2_with fail
        refine HF.out.mono ?_
        rintro e W1 ⟨rfl, g1⟩
        have G1 := Lib.hid (HB.out.trans (g1.mono HB.out.size))
        have T1 := Lib.hid (HT.out.below g1)
        have L1 := Lib.hid (HL.out.below g1)
        have d3 : W1.cell? ⟨w.heap.size, 0, none⟩ = some (.slice a0 x0.length c0) := (g1.cell (p := ⟨w.heap.size, 0, none⟩) (by show w.heap.size < _; rw [HS.out]; omega)).trans c3
        have d4 : W1.cell? ⟨w.heap.size + 1, 0, none⟩ = some (.slice a1 x1.length c1) := (g1.cell (p := ⟨w.heap.size + 1, 0, none⟩) (by show w.heap.size + 1 < _; rw [HS.out]; omega)).trans c4
        have HS1 := Lib.hid (show w.heap.size + 2 ≤ W1.heap.size by have := g1.size; rw [HS.out] at this; exact this)
        clear g1 HF c3 c4 HT HL HB HS HC3 HC4
        by_cases hok1 : ∀ l ∈ x1, okL l
        rotate_left
        · have HF := Lib.hid (fine_at x1 false (by rw [decide_eq_false_iff_not]; exact hok1) _ W1 L1.out.lists b1)
          go_wp2_with fail
          refine HF.out.mono ?_
          rintro e v2 ⟨rfl, g1⟩
          have G2 := Lib.hid (G1.out.trans (g1.mono G1.out.size))
          clear g1 HF
          go_wp2_with fail
          refine (awake_any _).mono ?_
          rintro e v2 ⟨rfl, g2⟩
          have G3 := Lib.hid (G2.out.trans (g2.mono G2.out.size))
          clear g2
          go_wp2
          go_ret
          exact ⟨rfl, G3.out⟩
        · have HF := Lib.hid (fine_at x1 true (by simpa using hok1) _ W1 L1.out.lists b1)
          go_wp2_with fail
          refine HF.out.mono ?_
          rintro e W2 ⟨rfl, g1⟩
          have G2 := Lib.hid (G1.out.trans (g1.mono G1.out.size))
          have T2 := Lib.hid (T1.out.below g1)
          have L2 := Lib.hid (L1.out.below g1)
          have e3 : W2.cell? ⟨w.heap.size, 0, none⟩ = some (.slice a0 x0.length c0) := (g1.cell (p := ⟨w.heap.size, 0, none⟩) (by show w.heap.size < _; have := HS1.out; omega)).trans d3
          have e4 : W2.cell? ⟨w.heap.size + 1, 0, none⟩ = some (.slice a1 x1.length c1) := (g1.cell (p := ⟨w.heap.size + 1, 0, none⟩) (by show w.heap.size + 1 < _; have := HS1.out; omega)).trans d4
          have HS2 := Lib.hid (Nat.le_trans HS1.out g1.size)
          clear g1 HF d3 d4 T1 L1 G1 HS1
          have HK := Lib.hid (And.intro hok0 hok1)
          clear hok0 hok1 h7
          have hl0 : x0.length ≤ 1000000 := Nat.le_trans HK.out.1.1 (by decide)
          have hl1 : ∀ l ∈ x1, l.length ≤ 1000000 := fun l h => Nat.le_trans (HK.out.2 l h).1 (by decide)
          have HCV := Lib.hid (cover_any x0 x1 _ _ W2 T2.out L2.out.lists hl0 (by omega) hl1)
          clear hl1
          go_wp2_with fail
          refine HCV.out.mono ?_
          rintro e W3 ⟨r, hr, vr, rfl, hvr, g3⟩
          have hr2 := covP_fine hr HK.out.1 HK.out.2 (by omega)
          obtain ⟨R, K⟩ := r
          have G3 := Lib.hid (G2.out.trans (g3.mono G2.out.size))
          have T3 := Lib.hid (T2.out.below g3)
          have L3 := Lib.hid (L2.out.below g3)
          have f3 : W3.cell? ⟨w.heap.size, 0, none⟩ = some (.slice a0 x0.length c0) := (g3.cell (p := ⟨w.heap.size, 0, none⟩) (by show w.heap.size < _; have := HS2.out; omega)).trans e3
          have f4 : W3.cell? ⟨w.heap.size + 1, 0, none⟩ = some (.slice a1 x1.length c1) := (g3.cell (p := ⟨w.heap.size + 1, 0, none⟩) (by show w.heap.size + 1 < _; have := HS2.out; omega)).trans e4
          have HS3 := Lib.hid (Nat.le_trans HS2.out g3.size)
          have HR3 := Lib.hid hvr
          obtain ⟨ar, cr, rfl, _⟩ := hvr
          have HRR := Lib.hid hr2
          clear g3 HCV e3 e4 T2 L2 G2 HS2 hr hr2
          go_wp2_with fail
          have hrange : ∀ x ∈ R, 0 ≤ x ∧ x < x1.length := by
            intro x hx
            rcases HRR.out with ⟨c, hb, he⟩ | ⟨_, he⟩
            · obtain ⟨rfl, _⟩ := Prod.mk.inj he
              obtain ⟨i, hi, rfl⟩ := List.mem_map.1 hx
              have := asc_lt hb.1.1 i hi
              omega
            · obtain ⟨rfl, _⟩ := Prod.mk.inj he
              simp at hx
          have hRl : R.length ≤ 1000000 := by
            rcases HRR.out with ⟨c, hb, he⟩ | ⟨_, he⟩
            · obtain ⟨rfl, _⟩ := Prod.mk.inj he
              have := asc_len hb.1.1 (Nat.zero_le _)
              simp only [upL, List.length_map]
              omega
            · obtain ⟨rfl, _⟩ := Prod.mk.inj he
              simp
          have HCF := Lib.hid (containsF_any R (fun _ => false) 40 #[.pointer (some ⟨w.heap.size + 1, 0, none⟩)] Try.call40 false (by simp) _ W3 HR3.out hRl
            (fun m x hx => (cov2_any x1 x (hrange x hx) _ _ (W3.drewN m) f4 (L3.out.below (below_drewN _ _))).mono fun e w' ⟨h, h'⟩ => ⟨h, m, h'.symm⟩))
          clear hrange hRl
          refine HCF.out.mono ?_
          rintro e W4 ⟨rfl, m, hm⟩
          have hB34 : Below W3.heap.size W3 W4 := by rw [hm]; exact below_drewN _ _
          have G4 := Lib.hid (G3.out.trans (hB34.mono G3.out.size))
          have T4 := Lib.hid (T3.out.below hB34)
          have L4 := Lib.hid (L3.out.below hB34)
          have R4 := Lib.hid (HR3.out.below hB34)
          have g3 : W4.cell? ⟨w.heap.size, 0, none⟩ = some (.slice a0 x0.length c0) := by rw [hm]; exact f3
          have g4 : W4.cell? ⟨w.heap.size + 1, 0, none⟩ = some (.slice a1 x1.length c1) := by rw [hm]; exact f4
          have HS4 := Lib.hid (Nat.le_trans HS3.out hB34.size)
          clear hm hB34 HCF f3 f4 T3 L3 G3 HS3 HR3
          have hok12 := Lib.hid (fun l (h : l ∈ x1) => (HK.out.2 l h).1)
          have hinT := Lib.hid ((err_iff _).1 HK.out.1.2).2
          have hinL := Lib.hid (fun l (h : l ∈ x1) => ((err_iff l).1 (HK.out.2 l h).2).2)
          have HASC := Lib.hid (fun p => asc_selN p x1.length)
          obtain ⟨i0, hi, hz0, hz1, hz2⟩ := info_parts info_int
          obtain ⟨n, hn⟩ : ∃ n, x1.length = n := ⟨_, rfl⟩
          have hn7 : n ≤ 7 := by omega
          obtain ⟨N, hN⟩ : ∃ N, 2 ^ n = N := ⟨_, rfl⟩
          have hN1 : 1 ≤ N := by rw [← hN]; exact Nat.two_pow_pos n
          have hN2 : N ≤ 128 := by rw [← hN]; exact Nat.pow_le_pow_right (n := 2) (by decide) (show n ≤ 7 from hn7)
          have hwN : IntKind.i64.wrap (2 ^ n) = (N : Int) := by
            have e : (2 : Int) ^ n = (N : Int) := by rw [← hN]; simp
            rw [e]; exact IntWalk.i64_in _ (by omega)
          obtain ⟨d, hd⟩ : ∃ d, a2.tmod (N : Int) = d := ⟨_, rfl⟩
          have hdb : 0 ≤ d ∧ d < 256 := by
            rw [← hd, Int.tmod_eq_emod_of_nonneg u00]
            have h1 := Int.emod_nonneg a2 (show (N : Int) ≠ 0 by omega)
            have h2 := Int.emod_lt_of_pos a2 (show (0 : Int) < N by omega)
            omega
          have hwd : IntKind.i64.wrap d = d := IntWalk.i64_in _ (by omega)
          have hN0 : ((N : Int) == 0) = false := by rw [beq_eq_false_iff_ne]; omega
          have hN00 : ¬ (N : Int) = 0 := by omega
          have HNN := Lib.hid hn
          clear hN
          rcases HRR.out with ⟨c, hb, he⟩ | ⟨hno, he⟩
          · obtain ⟨rfl, rfl⟩ := Prod.mk.inj he
            have HBEST := Lib.hid hb
            have hul : (upL c).length = c.length := by simp [upL]
            have hcn : c.length ≤ 7 := by have := asc_len hb.1.1 (Nat.zero_le _); omega
            have HCOV := Lib.hid (covers1_any x0 x1 c hok12.out (fun i hi => (asc_lt hb.1.1 i hi).2) (by omega) hl0 (by omega) _ _ _ _ _ W4 g3 g4 (by have := HS4.out; omega) (by have := HS4.out; omega) T4.out L4.out R4.out)
            rw [show covB x0 x1 c = true from (covB_cov hinT.out hinL.out hb.1.1).2 hb.1] at HCOV
            have herr := upL_up c _ hb.1.1 (by omega)
            have HERR := Lib.hid herr
            rw [hn] at g4
            rw [hul] at R4 HCOV
            have HUL := Lib.hid hul
            obtain ⟨cl, hcl⟩ : ∃ cl, c.length = cl := ⟨_, rfl⟩
            rw [hcl] at R4 HCOV hcn
            have HCL := Lib.hid hcl
            rw [hul, hcl]
            have HNX := Lib.hid (fun (ch : Nat) (h : covB x0 x1 (selN x1.length ch.testBit) = true) => hb.2 _ ((covB_cov hinT.out hinL.out (HASC.out _)).1 h))
            clear hb he herr hul hcl h7' hn
            rw [HNN.out]
            go_wp2_with fail
            refine HCOV.out.mono ?_
            rintro e W5 ⟨rfl, g5⟩
            have G5 := Lib.hid (G4.out.trans (g5.mono G4.out.size))
            have T5 := Lib.hid (T4.out.below g5)
            have L5 := Lib.hid (L4.out.below g5)
            have R5 := Lib.hid (R4.out.below g5)
            have k3 : W5.cell? ⟨w.heap.size, 0, none⟩ = some (.slice a0 x0.length c0) := (g5.cell (p := ⟨w.heap.size, 0, none⟩) (by show w.heap.size < _; have := HS4.out; omega)).trans g3
            have k4 : W5.cell? ⟨w.heap.size + 1, 0, none⟩ = some (.slice a1 n c1) := (g5.cell (p := ⟨w.heap.size + 1, 0, none⟩) (by show w.heap.size + 1 < _; have := HS4.out; omega)).trans g4
            have HS5 := Lib.hid (Nat.le_trans HS4.out g5.size)
            clear g5 HCOV g3 g4 T4 L4 R4 G4 HS4
            go_wp2_with fail
            have hck := check_any (upL c) _ W5 R5.out (by rw [HUL.out, HCL.out]; omega)
            rw [HERR.out] at hck
            refine hck.mono ?_
            rintro e y0 ⟨rfl, rfl⟩
            clear hck
            go_wp2
            go_loopw [69] (fun i wr => ∃ ch : Nat, ch ≤ N ∧ i = .int .i64 ch ∧ Below W5.heap.size W5 wr) (fun i _ => N - (intOf i).toNat)
            case atStart => exact ⟨0, Nat.zero_le _, rfl, Below.refl _ _⟩
            case round =>
              obtain ⟨ch, hch, rfl, hB⟩ := hrel
              obtain ⟨wk, rfl⟩ : ∃ x, x = wr := ⟨_, rfl⟩
              have HB := Lib.hid hB
              have T6 := Lib.hid (T5.out.below hB)
              have L6 := Lib.hid (L5.out.below hB)
              have R6 := Lib.hid (R5.out.below hB)
              have q3 : wk.cell? ⟨w.heap.size, 0, none⟩ = some (.slice a0 x0.length c0) := (hB.cell (p := ⟨w.heap.size, 0, none⟩) (by show w.heap.size < _; have := HS5.out; omega)).trans k3
              have q4 : wk.cell? ⟨w.heap.size + 1, 0, none⟩ = some (.slice a1 n c1) := (hB.cell (p := ⟨w.heap.size + 1, 0, none⟩) (by show w.heap.size + 1 < _; have := HS5.out; omega)).trans k4
              have HS6 := Lib.hid (Nat.le_trans HS5.out hB.size)
              clear hB
              by_cases hlt : ch < N
              · by_cases hskip : ¬ (ch : Int) = d ∧ 4 < n
                · have hq1 : ((ch : Int) != d) = true := by rw [bne_iff_ne]; exact hskip.1
                  have hq2 : (4 : Int) < (n : Int) := by have := hskip.2; omega
                  clear hskip
                  go_wp2
                  go_roundw
                  case rel => exact ⟨ch + 1, by omega, by go_num, HB.out⟩
                  case measure => simp [intOf]; omega
                · have hway : (((ch : Int) != d) = false) ∨ (((ch : Int) != d) = true ∧ (n : Int) ≤ 4) := by
                    by_cases e : (ch : Int) = d
                    · exact .inl (by rw [e]; simp)
                    · exact .inr ⟨by rw [bne_iff_ne]; exact e, by omega⟩
                  clear hskip
                  rcases hway with hq1 | ⟨hq1, hq2⟩
                  all_goals
                    go_wp2
                    go_loopw [11, 87] (fun o i wr => ∃ k : Nat, k ≤ n ∧ i = .int .i64 k ∧ wr.ownsRow wk.heap.size 3 1 o (selN k ch.testBit).length (mapN (selN k ch.testBit)) ∧ Below wk.heap.size wk wr) (fun _ i _ => n - (intOf i).toNat)
                    case atStart => exact ⟨0, Nat.zero_le _, rfl, World.ownsRow_nil _ _ _ _, Below.refl _ _⟩
                    case round =>
                      obtain ⟨k, hk, rfl, hown, hBJ⟩ := hrel
                      obtain ⟨wj, rfl⟩ : ∃ x, x = wr := ⟨_, rfl⟩
                      have HO := Lib.hid hown
                      have HBJ := Lib.hid hBJ
                      have hsl := selN_len k ch.testBit
                      clear hown
                      by_cases hkl : k < n
                      · have HSU := Lib.hid (selN_succ k ch.testBit)
                        have hbit := bit_i64 ch (by omega) k
                        obtain ⟨S, hS⟩ : ∃ S, selN k ch.testBit = S := ⟨_, rfl⟩
                        rw [hS] at HSU HO hsl
                        obtain ⟨bt, hbt⟩ : ∃ b, ch.testBit k = b := ⟨_, rfl⟩
                        rw [hbt] at hbit HSU
                        clear hS hbt hBJ
                        cases bt
                        · go_wp2
                          go_roundw
                          case rel => exact ⟨k + 1, by omega, by go_num, by rw [HSU.out]; exact HO.out, HBJ.out⟩
                          case measure => simp [intOf]; omega
                        · go_wp2_with (at_builtin; refine wpList_append_own _ rfl _ _ 22 rfl wk.heap.size 3 i0 (.int .i64 0) 1 8 Try.underlying22 hi hz0 hz1 hz2 rfl (by decide) _ _ _ rfl (HO.out.alloc _) ⟨wj.heap.size, 0, none⟩ 1 1 [.int .i64 _] rfl rfl (int_news _ _ _ _ rfl) (by simp [Value.oneCell']) (by unfold maxLen; omega) (by omega) (by have := HBJ.out.size; simp; omega) ?_; intro v' y1 hown' hgrow hnn; clear hnn; have HO1 := Lib.hid hown'; have HB1 := Lib.hid (own_below HBJ.out HBJ.out.size HO.out hgrow); clear hown' hgrow)
                          go_roundw
                          case rel => exact ⟨k + 1, by omega, by go_num, by rw [HSU.out]; simpa using HO1.out, HB1.out⟩
                          case measure => simp [intOf]; omega
                      · obtain rfl : k = n := by omega
                        have hmi : IntsAt wj _ (upL (selN k ch.testBit)) := IntsAt.of_own (n := (selN k ch.testBit).length) (by rw [upL, List.map_map]; exact HO.out)
                        have hlenm : (upL (selN k ch.testBit)).length = (selN k ch.testBit).length := by simp [upL]
                        obtain ⟨M, hM⟩ : ∃ M, selN k ch.testBit = M := ⟨_, rfl⟩
                        rw [hM] at hmi hlenm hsl HO
                        have HM := Lib.hid hM
                        have T7 := Lib.hid (T6.out.below hBJ)
                        have L7 := Lib.hid (L6.out.below hBJ)
                        have R7 := Lib.hid (R6.out.below hBJ)
                        have r3 : wj.cell? ⟨w.heap.size, 0, none⟩ = some (.slice a0 x0.length c0) := (hBJ.cell (p := ⟨w.heap.size, 0, none⟩) (by show w.heap.size < _; have := HS6.out; omega)).trans q3
                        have r4 : wj.cell? ⟨w.heap.size + 1, 0, none⟩ = some (.slice a1 k c1) := (hBJ.cell (p := ⟨w.heap.size + 1, 0, none⟩) (by show w.heap.size + 1 < _; have := HS6.out; omega)).trans q4
                        have hcc := covers1_any x0 x1 M hok12.out (fun i hi => by have h9 := HASC.out ch.testBit; rw [HNN.out, HM.out] at h9; rw [HNN.out]; exact (asc_lt h9 i hi).2) (by omega) hl0 (by omega) (w.heap.size) (w.heap.size + 1) _ (.slice a1 k c1) _ wj r3 r4 (by have := HS6.out; have := hBJ.size; omega) (by have := HS6.out; have := hBJ.size; omega) T7.out (by have := L7.out; rw [HNN.out] at this; exact this) hmi
                        have HCC := Lib.hid hcc
                        have HMI := Lib.hid hmi
                        obtain ⟨am, cm, rfl, _⟩ := hmi
                        rw [hlenm] at HCC HMI
                        rw [hlenm]
                        have HLM := Lib.hid hlenm
                        have hnx := HNX.out ch
                        rw [HNN.out, HM.out] at hnx
                        have HNX2 := Lib.hid hnx
                        have HBW := Lib.hid (HB.out.trans (hBJ.mono HB.out.size))
                        obtain ⟨ml, hml⟩ : ∃ ml, M.length = ml := ⟨_, rfl⟩
                        rw [hml] at HCC HMI HLM hsl
                        rw [hml]
                        have HML := Lib.hid hml
                        obtain ⟨cv, hcv⟩ : ∃ cv, covB x0 x1 M = cv := ⟨_, rfl⟩
                        rw [hcv] at HCC HNX2
                        clear hcc r3 r4 hBJ hM hlenm hnx hml HO T7 L7 hcv
                        cases cv
                        · go_wp2_with fail
                          refine HCC.out.mono ?_
                          rintro e y1 ⟨rfl, g⟩
                          have HG := Lib.hid (HBW.out.trans (g.mono HBW.out.size))
                          clear g HCC
                          go_wp2
                          go_roundw
                          case rel => exact ⟨ch + 1, by omega, by go_num, HG.out⟩
                          case measure => simp [intOf]; omega
                        · obtain ⟨h1, h2⟩ := HNX2.out rfl
                          rw [HML.out, HCL.out] at h1 h2
                          have HH2 := Lib.hid h2
                          have hle : (cl : Int) ≤ (ml : Int) := by omega
                          clear h2
                          by_cases heq : ml = cl
                          · have hqq : ((ml : Int) == (cl : Int)) = true := by rw [beq_iff_eq]; omega
                            have HEQ := Lib.hid heq
                            clear heq
                            go_wp2_with fail
                            refine HCC.out.mono ?_
                            rintro e y1 ⟨rfl, g⟩
                            have HG := Lib.hid (HBW.out.trans (g.mono HBW.out.size))
                            have hcmp := compare_any (upL M) (upL c) (by rw [HLM.out, HUL.out, HCL.out]; exact HEQ.out) _ _ y1 (HMI.out.below g) (R7.out.below g) (by rw [HLM.out]; omega)
                            have HCMP := Lib.hid hcmp
                            clear g HCC hcmp
                            go_wp2_with fail
                            refine HCMP.out.mono ?_
                            rintro e y2 ⟨⟨z, rfl, hzz⟩, rfl⟩
                            have hz : decide (z < 0) = false := by
                              rw [hzz]
                              cases hl : lexB (upL M) (upL c)
                              · rfl
                              · exact absurd (lexB_up _ _ hl) (HH2.out HEQ.out)
                            clear hzz HCMP
                            go_wp2
                            go_roundw
                            case rel => exact ⟨ch + 1, by omega, by go_num, HG.out⟩
                            case measure => simp [intOf]; omega
                          · have hqq : ((ml : Int) == (cl : Int)) = false := by rw [beq_eq_false_iff_ne]; omega
                            clear heq
                            go_wp2_with fail
                            refine HCC.out.mono ?_
                            rintro e y1 ⟨rfl, g⟩
                            have HG := Lib.hid (HBW.out.trans (g.mono HBW.out.size))
                            clear g HCC
                            go_wp2
                            go_roundw
                            case rel => exact ⟨ch + 1, by omega, by go_num, HG.out⟩
                            case measure => simp [intOf]; omega
              · obtain rfl : ch = N := by omega
                go_wp2_with fail
                refine (awake_any _).mono ?_
                rintro e y1 ⟨rfl, g⟩
                have HG := Lib.hid ((G5.out.trans (HB.out.mono G5.out.size)).trans (g.mono (Nat.le_trans G5.out.size HB.out.size)))
                clear g
                go_wp2
                go_ret
                exact ⟨rfl, HG.out⟩
          · obtain ⟨rfl, rfl⟩ := Prod.mk.inj he
            have HNX := Lib.hid (fun (ch : Nat) (h : covB x0 x1 (selN x1.length ch.testBit) = true) => hno _ ((covB_cov hinT.out hinL.out (HASC.out _)).1 h))
            rw [hn] at g4
            have T5 := Lib.hid T4.out
            have L5 := Lib.hid L4.out
            have G5 := Lib.hid G4.out
            have HS5 := Lib.hid HS4.out
            have k3 := g3
            have k4 := g4
            obtain ⟨W5, hW5⟩ : ∃ x, x = W4 := ⟨_, rfl⟩
            subst hW5
            clear hno he T4 L4 R4 G4 HS4 g3 g4 h7' hn
            rw [HNN.out]
            go_wp2
            go_loopw [69] (fun i wr => ∃ ch : Nat, ch ≤ N ∧ i = .int .i64 ch ∧ Below W5.heap.size W5 wr) (fun i _ => N - (intOf i).toNat)
            case atStart => exact ⟨0, Nat.zero_le _, rfl, Below.refl _ _⟩
            case round =>
              obtain ⟨ch, hch, rfl, hB⟩ := hrel
              obtain ⟨wk, rfl⟩ : ∃ x, x = wr := ⟨_, rfl⟩
              have HB := Lib.hid hB
              have T6 := Lib.hid (T5.out.below hB)
              have L6 := Lib.hid (L5.out.below hB)
              have q3 : wk.cell? ⟨w.heap.size, 0, none⟩ = some (.slice a0 x0.length c0) := (hB.cell (p := ⟨w.heap.size, 0, none⟩) (by show w.heap.size < _; have := HS5.out; omega)).trans k3
              have q4 : wk.cell? ⟨w.heap.size + 1, 0, none⟩ = some (.slice a1 n c1) := (hB.cell (p := ⟨w.heap.size + 1, 0, none⟩) (by show w.heap.size + 1 < _; have := HS5.out; omega)).trans k4
              have HS6 := Lib.hid (Nat.le_trans HS5.out hB.size)
              clear hB
              by_cases hlt : ch < N
              · by_cases hskip : ¬ (ch : Int) = d ∧ 4 < n
                · have hq1 : ((ch : Int) != d) = true := by rw [bne_iff_ne]; exact hskip.1
                  have hq2 : (4 : Int) < (n : Int) := by have := hskip.2; omega
                  clear hskip
                  go_wp2
                  go_roundw
                  case rel => exact ⟨ch + 1, by omega, by go_num, HB.out⟩
                  case measure => simp [intOf]; omega
                · have hway : (((ch : Int) != d) = false) ∨ (((ch : Int) != d) = true ∧ (n : Int) ≤ 4) := by
                    by_cases e : (ch : Int) = d
                    · exact .inl (by rw [e]; simp)
                    · exact .inr ⟨by rw [bne_iff_ne]; exact e, by omega⟩
                  clear hskip
                  rcases hway with hq1 | ⟨hq1, hq2⟩
                  all_goals
                    go_wp2
                    go_loopw [11, 87] (fun o i wr => ∃ k : Nat, k ≤ n ∧ i = .int .i64 k ∧ wr.ownsRow wk.heap.size 3 1 o (selN k ch.testBit).length (mapN (selN k ch.testBit)) ∧ Below wk.heap.size wk wr) (fun _ i _ => n - (intOf i).toNat)
                    case atStart => exact ⟨0, Nat.zero_le _, rfl, World.ownsRow_nil _ _ _ _, Below.refl _ _⟩
                    case round =>
                      obtain ⟨k, hk, rfl, hown, hBJ⟩ := hrel
                      obtain ⟨wj, rfl⟩ : ∃ x, x = wr := ⟨_, rfl⟩
                      have HO := Lib.hid hown
                      have HBJ := Lib.hid hBJ
                      have hsl := selN_len k ch.testBit
                      clear hown
                      by_cases hkl : k < n
                      · have HSU := Lib.hid (selN_succ k ch.testBit)
                        have hbit := bit_i64 ch (by omega) k
                        obtain ⟨S, hS⟩ : ∃ S, selN k ch.testBit = S := ⟨_, rfl⟩
                        rw [hS] at HSU HO hsl
                        obtain ⟨bt, hbt⟩ : ∃ b, ch.testBit k = b := ⟨_, rfl⟩
                        rw [hbt] at hbit HSU
                        clear hS hbt hBJ
                        cases bt
                        · go_wp2
                          go_roundw
                          case rel => exact ⟨k + 1, by omega, by go_num, by rw [HSU.out]; exact HO.out, HBJ.out⟩
                          case measure => simp [intOf]; omega
                        · go_wp2_with (at_builtin; refine wpList_append_own _ rfl _ _ 22 rfl wk.heap.size 3 i0 (.int .i64 0) 1 8 Try.underlying22 hi hz0 hz1 hz2 rfl (by decide) _ _ _ rfl (HO.out.alloc _) ⟨wj.heap.size, 0, none⟩ 1 1 [.int .i64 _] rfl rfl (int_news _ _ _ _ rfl) (by simp [Value.oneCell']) (by unfold maxLen; omega) (by omega) (by have := HBJ.out.size; simp; omega) ?_; intro v' y1 hown' hgrow hnn; clear hnn; have HO1 := Lib.hid hown'; have HB1 := Lib.hid (own_below HBJ.out HBJ.out.size HO.out hgrow); clear hown' hgrow)
                          go_roundw
                          case rel => exact ⟨k + 1, by omega, by go_num, by rw [HSU.out]; simpa using HO1.out, HB1.out⟩
                          case measure => simp [intOf]; omega
                      · obtain rfl : k = n := by omega
                        have hmi : IntsAt wj _ (upL (selN k ch.testBit)) := IntsAt.of_own (n := (selN k ch.testBit).length) (by rw [upL, List.map_map]; exact HO.out)
                        have hlenm : (upL (selN k ch.testBit)).length = (selN k ch.testBit).length := by simp [upL]
                        obtain ⟨M, hM⟩ : ∃ M, selN k ch.testBit = M := ⟨_, rfl⟩
                        rw [hM] at hmi hlenm hsl HO
                        have HM := Lib.hid hM
                        have T7 := Lib.hid (T6.out.below hBJ)
                        have L7 := Lib.hid (L6.out.below hBJ)
                        have r3 : wj.cell? ⟨w.heap.size, 0, none⟩ = some (.slice a0 x0.length c0) := (hBJ.cell (p := ⟨w.heap.size, 0, none⟩) (by show w.heap.size < _; have := HS6.out; omega)).trans q3
                        have r4 : wj.cell? ⟨w.heap.size + 1, 0, none⟩ = some (.slice a1 k c1) := (hBJ.cell (p := ⟨w.heap.size + 1, 0, none⟩) (by show w.heap.size + 1 < _; have := HS6.out; omega)).trans q4
                        have hcc := covers1_any x0 x1 M hok12.out (fun i hi => by have h9 := HASC.out ch.testBit; rw [HNN.out, HM.out] at h9; rw [HNN.out]; exact (asc_lt h9 i hi).2) (by omega) hl0 (by omega) (w.heap.size) (w.heap.size + 1) _ (.slice a1 k c1) _ wj r3 r4 (by have := HS6.out; have := hBJ.size; omega) (by have := HS6.out; have := hBJ.size; omega) T7.out (by have := L7.out; rw [HNN.out] at this; exact this) hmi
                        have HCC := Lib.hid hcc
                        have HMI := Lib.hid hmi
                        obtain ⟨am, cm, rfl, _⟩ := hmi
                        rw [hlenm] at HCC HMI
                        rw [hlenm]
                        have HLM := Lib.hid hlenm
                        have hnx := HNX.out ch
                        rw [HNN.out, HM.out] at hnx
                        have HNX2 := Lib.hid hnx
                        have HBW := Lib.hid (HB.out.trans (hBJ.mono HB.out.size))
                        obtain ⟨ml, hml⟩ : ∃ ml, M.length = ml := ⟨_, rfl⟩
                        rw [hml] at HCC HMI HLM hsl
                        rw [hml]
                        have HML := Lib.hid hml
                        obtain ⟨cv, hcv⟩ : ∃ cv, covB x0 x1 M = cv := ⟨_, rfl⟩
                        rw [hcv] at HCC HNX2
                        clear hcc r3 r4 hBJ hM hlenm hnx hml HO T7 L7 hcv
                        cases cv
                        · go_wp2_with fail
                          refine HCC.out.mono ?_
                          rintro e y1 ⟨rfl, g⟩
                          have HG := Lib.hid (HBW.out.trans (g.mono HBW.out.size))
                          clear g HCC
                          go_wp2
                          go_roundw
                          case rel => exact ⟨ch + 1, by omega, by go_num, HG.out⟩
                          case measure => simp [intOf]; omega
                        · exact (HNX2.out rfl).elim
              · obtain rfl : ch = N := by omega
                go_wp2_with fail
                refine (awake_any _).mono ?_
                rintro e y1 ⟨rfl, g⟩
                have HG := Lib.hid ((G5.out.trans (HB.out.mono G5.out.size)).trans (g.mono (Nat.le_trans G5.out.size HB.out.size)))
                clear g
                go_wp2
                go_ret
                exact ⟨rfl, HG.out⟩
end Go.Proofs.Ytdplcpnahahkaaa
