/- IntsetAlgebra. -/
import Derived.Test.YtdplcpnahahkaaaIsSubsets
import Derived.Laws.EntriesVeiled
namespace Go.Proofs.Ytdplcpnahahkaaa
set_option linter.unusedSimpArgs false
set_option linter.unusedVariables false
set_option maxRecDepth 100000
open Go.RowKit Go.Deep

/-- what lay holds what it held -/
structure KC (w w' : World) : Prop where
  size : w.heap.size ≤ w'.heap.size
  cell : ∀ b j, b < w.heap.size → w'.cell? ⟨b, j, none⟩ = w.cell? ⟨b, j, none⟩
  frozen : ∀ b j, b < w.heap.size → w'.frozen? ⟨b, j, none⟩ = w.frozen? ⟨b, j, none⟩
theorem KC.trans {a b c : World} (h : KC a b) (k : KC b c) : KC a c :=
  ⟨Nat.le_trans h.size k.size, fun x j hx => (k.cell x j (Nat.lt_of_lt_of_le hx h.size)).trans (h.cell x j hx), fun x j hx => (k.frozen x j (Nat.lt_of_lt_of_le hx h.size)).trans (h.frozen x j hx)⟩
theorem KC.of_below {w w' : World} (h : Below w.heap.size w w') : KC w w' :=
  ⟨h.size, fun b j hb => h.cell (p := ⟨b, j, none⟩) hb, fun b j hb => by unfold World.frozen?; rw [h.block b hb]⟩
theorem KC.setSame {w : World} {b : Nat} {v : Value} (h : w.cell? ⟨b, 0, none⟩ = some v) : KC w (w.setCell ⟨b, 0, none⟩ v) := by
  refine ⟨by simp, fun c j hc => ?_, fun c j hc => by rw [World.frozen?_setCell]⟩
  by_cases e : c = b ∧ j = 0
  · obtain ⟨rfl, rfl⟩ := e
    rw [h]; exact World.cell?_setCell_same' _ _ _ (by rw [h]; rfl)
  · exact World.cell?_setCell_other _ _ _ _ (by intro hh; apply e; cases hh; exact ⟨rfl, rfl⟩)
theorem IntsAt.kc {W W' : World} {v : Value} {zs : List Int} (h : IntsAt W v zs) (hB : KC W W') : IntsAt W' v zs := by
  obtain ⟨a, cap, rfl, hc⟩ := h
  refine ⟨a, cap, rfl, fun h0 => ?_⟩
  obtain ⟨b, off, ha, hb, hcs⟩ := hc h0
  exact ⟨b, off, ha, Nat.lt_of_lt_of_le hb hB.size, fun j hj => (hB.cell b (off + j) hb).trans (hcs j hj)⟩
/-- the box of ok -/
structure BX (b : Nat) (w : World) : Prop where
  lt : b < w.heap.size
  cell : w.cell? ⟨b, 0, none⟩ = some (.bool true)
  frozen : w.frozen? ⟨b, 0, none⟩ = false
theorem BX.kc {b : Nat} {w w' : World} (h : BX b w) (k : KC w w') : BX b w' := ⟨Nat.lt_of_lt_of_le h.lt k.size, (k.cell b 0 h.lt).trans h.cell, (k.frozen b 0 h.lt).trans h.frozen⟩

/-- the set of what F picks of three sets -/
def T3 (a b c : List Int) (F : Bool → Bool → Bool → Bool) : List Int := sel 64 fun i => F (has a i) (has b i) (has c i)
theorem T3_op (f : Bool → Bool → Bool) (a b c : List Int) (F G : Bool → Bool → Bool → Bool) : opR f (T3 a b c F) (T3 a b c G) = (T3 a b c fun x y z => f (F x y z) (G x y z), 0) := by
  rw [opR, if_neg (by rintro (h | h); exact h (err_sel (Nat.le_refl _) _); exact h (err_sel (Nat.le_refl _) _))]
  refine congrArg (fun l => (l, (0 : Int))) (sel_congr fun i hi => ?_)
  rw [T3, T3, has_sel, has_sel, decide_eq_true hi, Bool.true_and, Bool.true_and]
theorem T3_eq {a b c : List Int} {F G : Bool → Bool → Bool → Bool} (h : ∀ x y z, F x y z = G x y z) : T3 a b c F = T3 a b c G := sel_congr fun i _ => h _ _ _
theorem T3_le (a b c : List Int) (F : Bool → Bool → Bool → Bool) : (T3 a b c F).length ≤ 1000000 := sel_le _
theorem T3_a {a b c : List Int} (h : okL a) : T3 a b c (fun x _ _ => x) = a := sel_has h.2
theorem T3_b {a b c : List Int} (h : okL b) : T3 a b c (fun _ y _ => y) = b := sel_has h.2
theorem T3_c {a b c : List Int} (h : okL c) : T3 a b c (fun _ _ z => z) = c := sel_has h.2

set_option maxHeartbeats 1000000 in
theorem do_any (a b c : List Int) (f : Bool → Bool → Bool) (fs : Nat) (hce : ∀ args W, Sem.run Try.prog (callFunc fs args) W = .ok (.enter fs args) W)
    (hop : ∀ (xs ys : List Int) (r : List Int × Int) (_ : opR f xs ys = r) (vx vy : Value) (w : World) (_ : IntsAt w vx xs) (_ : IntsAt w vy ys) (_ : xs.length ≤ 1000000) (_ : ys.length ≤ 1000000), Calls Try.prog fs #[vx, vy] w (ListPost r w))
    (F G : Bool → Bool → Bool → Bool) (vx vy : Value) (bb : Nat) (w : World) (hb : BX bb w) (hx : IntsAt w vx (T3 a b c F)) (hy : IntsAt w vy (T3 a b c G)) :
    Calls Try.prog 35 #[.func (.func fs) #[] #[], vx, vy, .pointer (some ⟨bb, 0, none⟩)] w fun e w' => ∃ v, e = .returned v ∧ IntsAt w' v (T3 a b c fun x y z => f (F x y z) (G x y z)) ∧ KC w w' ∧ Below bb w w' := by
  have HC := Lib.hid (hop _ _ _ (T3_op f a b c F G) vx vy w hx hy (T3_le _ _ _ _) (T3_le _ _ _ _))
  have HB := Lib.hid hb
  obtain ⟨ax, cx, rfl, _⟩ := hx
  obtain ⟨ay, cy, rfl, _⟩ := hy
  clear hop hb
  obtain ⟨n1, h1⟩ : ∃ n, (T3 a b c F).length = n := ⟨_, rfl⟩
  obtain ⟨n2, h2⟩ : ∃ n, (T3 a b c G).length = n := ⟨_, rfl⟩
  obtain ⟨R, hR⟩ : ∃ R, (T3 a b c fun x y z => f (F x y z) (G x y z)) = R := ⟨_, rfl⟩
  rw [h1, h2, hR] at HC
  rw [h1, h2, hR]
  clear h1 h2 hR
  go_enter Try.func35, Try.ntmps35
  go_wp2_with fail
  refine HC.out.mono ?_
  rintro e w1 ⟨v, rfl, h1, h2⟩
  have hb1 := HB.out.kc (KC.of_below h2)
  have e1 := hb1.cell
  have e2 := hb1.frozen
  have H1 := Lib.hid (h1.kc (KC.setSame e1))
  have HK := Lib.hid ((KC.of_below h2).trans (KC.setSame e1))
  have HBB := Lib.hid ((h2.mono (Nat.le_of_lt HB.out.lt)).setCell (p := ⟨bb, 0, none⟩) (Nat.le_refl _) (.bool true))
  obtain ⟨ar, cr, rfl, _⟩ := h1
  clear hb1 h2 HC
  go_wp2
  go_ret
  exact ⟨_, rfl, H1.out, HK.out, HBB.out⟩

theorem three_lists (w : World) {u0 u1 u2 : Value} {x0 x1 x2 : List Int} (h0 : IntsAt w u0 x0) (h1 : IntsAt w u1 x1) (h2 : IntsAt w u2 x2) : ListsAt (w.alloc (.cells #[u0, u1, u2] 22)) (.slice (some ⟨w.heap.size, 0, none⟩) 3 3) [x0, x1, x2] :=
  lists_lit w [u0, u1, u2] [x0, x1, x2] rfl (fun j hj => by
    match j, hj with
    | 0, _ => exact h0
    | 1, _ => exact h1
    | 2, _ => exact h2)
theorem fine_three (w : World) {u0 u1 u2 : Value} {x0 x1 x2 : List Int} (h0 : IntsAt w u0 x0) (h1 : IntsAt w u1 x1) (h2 : IntsAt w u2 x2) (r : Bool) (hr : decide (okL x0 ∧ okL x1 ∧ okL x2) = r) :
    Calls Try.prog 33 #[.slice (some ⟨w.heap.size, 0, none⟩) 3 3] (w.alloc (.cells #[u0, u1, u2] 22)) fun e w' => e = .returned (.bool r) ∧ Below w.heap.size w w' :=
  (fine_any [x0, x1, x2] r (by rw [← hr]; apply decide_eq_decide.2; simp) _ _ (three_lists w h0 h1 h2) (by simp [maxLen])).mono fun e w' ⟨h, m, hm⟩ => ⟨h, by rw [hm]; exact (alloc_below w _).trans (below_drewN_n _ _ _)⟩

set_option maxHeartbeats 8000000 in
theorem algebra_law (w : World) (u0 : Value) (x0 : List Int) (u1 : Value) (x1 : List Int) (u2 : Value) (x2 : List Int) (w0 : IntsAt w u0 x0) (b0 : x0.length ≤ maxLen) (w1 : IntsAt w u1 x1) (b1 : x1.length ≤ maxLen) (w2 : IntsAt w u2 x2) (b2 : x2.length ≤ maxLen) :
    Calls Try.prog 6 #[u0, u1, u2] w fun e w' => e = .returned (.bool true) ∧ Below w.heap.size w w' := by
  by_cases hok : okL x0 ∧ okL x1 ∧ okL x2
  · have HF := Lib.hid (fine_three w w0 w1 w2 true (by simpa using hok))
    obtain ⟨o0, o1, o2⟩ := hok
    obtain ⟨a0, c0, rfl, _⟩ := id w0
    obtain ⟨a1, c1, rfl, _⟩ := id w1
    obtain ⟨a2, c2, rfl, _⟩ := id w2
    have HA := Lib.hid w0
    have HB := Lib.hid w1
    have HC := Lib.hid w2
    have HO := Lib.hid (And.intro o0 (And.intro o1 o2))
    obtain ⟨n0, e0⟩ : ∃ n, x0.length = n := ⟨_, rfl⟩
    obtain ⟨n1, e1⟩ : ∃ n, x1.length = n := ⟨_, rfl⟩
    obtain ⟨n2, e2⟩ : ∃ n, x2.length = n := ⟨_, rfl⟩
    rw [e0] at HA HF ⊢
    rw [e1] at HB HF ⊢
    rw [e2] at HC HF ⊢
    clear o0 o1 o2 w0 w1 w2 b0 b1 b2 e0 e1 e2
    go_enter Try.func6, Try.ntmps6
    go_wp2_with fail
    refine HF.out.mono ?_
    rintro e v0 ⟨rfl, g0⟩
    have G0 := Lib.hid g0
    have hg : w.heap.size ≤ v0.heap.size := g0.size
    have hst : (v0.alloc (.cells #[Value.bool false] 4)).cell? ⟨v0.heap.size, 0, none⟩ = some (.bool false) := cell_new1 _ _ _
    have hfz : (v0.alloc (.cells #[Value.bool false] 4)).frozen? ⟨v0.heap.size, 0, none⟩ = false := World.frozen?_alloc_new v0 #[Value.bool false] 4 0
    obtain ⟨bb, hbb⟩ : ∃ b, v0.heap.size = b := ⟨_, rfl⟩
    rw [hbb] at hst hfz hg
    have bA : Below v0.heap.size v0 (v0.alloc (.cells #[Value.bool true] 4)) := alloc_below _ _
    have k0 : KC v0 (v0.alloc (.cells #[Value.bool true] 4)) := KC.of_below bA
    have bx : BX bb (v0.alloc (.cells #[Value.bool true] 4)) := by
      subst hbb
      exact ⟨by simp, cell_new1 _ _ _, World.frozen?_alloc_new v0 #[Value.bool true] 4 0⟩
    have BX0 := Lib.hid bx
    have BB0 := Lib.hid (g0.trans (bA.mono g0.size))
    have A0 := Lib.hid (show IntsAt _ _ (T3 x0 x1 x2 fun x _ _ => x) by rw [T3_a HO.out.1]; exact (HA.out.below g0).kc k0)
    have B0 := Lib.hid (show IntsAt _ _ (T3 x0 x1 x2 fun _ y _ => y) by rw [T3_b HO.out.2.1]; exact (HB.out.below g0).kc k0)
    have C0 := Lib.hid (show IntsAt _ _ (T3 x0 x1 x2 fun _ _ z => z) by rw [T3_c HO.out.2.2]; exact (HC.out.below g0).kc k0)
    have HGE := Lib.hid hg
    clear bx k0 bA g0 HA HB HC HF G0 hg
    go_wp2_with fail
    refine (do_any x0 x1 x2 orB 23 Try.call23 union_any _ _ _ _ bb _ BX0.out A0.out B0.out).mono ?_
    rintro e v1 ⟨z1, rfl, p1, k1, g1⟩
    have BX1 := Lib.hid (BX0.out.kc k1)
    have BB1 := Lib.hid (BB0.out.trans (g1.mono HGE.out))
    clear hst hfz
    have L1A := Lib.hid (A0.out.kc k1)
    have L1B := Lib.hid (B0.out.kc k1)
    have L1C := Lib.hid (C0.out.kc k1)
    have L1ab := Lib.hid p1
    obtain ⟨q1, t1, rfl, _⟩ := p1
    clear g1 k1 BX0 BB0 A0 B0 C0
    go_wp2_with fail
    refine (do_any x0 x1 x2 orB 23 Try.call23 union_any _ _ _ _ bb _ BX1.out L1B.out L1A.out).mono ?_
    rintro e v2 ⟨z2, rfl, p2, k2, g2⟩
    have BX2 := Lib.hid (BX1.out.kc k2)
    have BB2 := Lib.hid (BB1.out.trans (g2.mono HGE.out))
    have L2A := Lib.hid (L1A.out.kc k2)
    have L2B := Lib.hid (L1B.out.kc k2)
    have L2C := Lib.hid (L1C.out.kc k2)
    have L2ab := Lib.hid (L1ab.out.kc k2)
    have L2ba := Lib.hid p2
    obtain ⟨q2, t2, rfl, _⟩ := p2
    clear g2 k2 BX1 BB1 L1A L1B L1C L1ab
    go_wp2_with fail
    refine (do_any x0 x1 x2 andB 25 Try.call25 intersect_any _ _ _ _ bb _ BX2.out L2A.out L2B.out).mono ?_
    rintro e v3 ⟨z3, rfl, p3, k3, g3⟩
    have BX3 := Lib.hid (BX2.out.kc k3)
    have BB3 := Lib.hid (BB2.out.trans (g3.mono HGE.out))
    have L3A := Lib.hid (L2A.out.kc k3)
    have L3B := Lib.hid (L2B.out.kc k3)
    have L3C := Lib.hid (L2C.out.kc k3)
    have L3ab := Lib.hid (L2ab.out.kc k3)
    have L3ba := Lib.hid (L2ba.out.kc k3)
    have L3in := Lib.hid p3
    obtain ⟨q3, t3, rfl, _⟩ := p3
    clear g3 k3 BX2 BB2 L2A L2B L2C L2ab L2ba
    go_wp2_with fail
    refine (do_any x0 x1 x2 andB 25 Try.call25 intersect_any _ _ _ _ bb _ BX3.out L3B.out L3A.out).mono ?_
    rintro e v4 ⟨z4, rfl, p4, k4, g4⟩
    have BX4 := Lib.hid (BX3.out.kc k4)
    have BB4 := Lib.hid (BB3.out.trans (g4.mono HGE.out))
    have L4A := Lib.hid (L3A.out.kc k4)
    have L4B := Lib.hid (L3B.out.kc k4)
    have L4C := Lib.hid (L3C.out.kc k4)
    have L4ab := Lib.hid (L3ab.out.kc k4)
    have L4ba := Lib.hid (L3ba.out.kc k4)
    have L4in := Lib.hid (L3in.out.kc k4)
    have L4ni := Lib.hid p4
    obtain ⟨q4, t4, rfl, _⟩ := p4
    clear g4 k4 BX3 BB3 L3A L3B L3C L3ab L3ba L3in
    go_wp2_with fail
    refine (do_any x0 x1 x2 orB 23 Try.call23 union_any _ _ _ _ bb _ BX4.out L4A.out L4B.out).mono ?_
    rintro e v5 ⟨z5, rfl, p5, k5, g5⟩
    have BX5 := Lib.hid (BX4.out.kc k5)
    have BB5 := Lib.hid (BB4.out.trans (g5.mono HGE.out))
    have L5A := Lib.hid (L4A.out.kc k5)
    have L5B := Lib.hid (L4B.out.kc k5)
    have L5C := Lib.hid (L4C.out.kc k5)
    have L5ab := Lib.hid (L4ab.out.kc k5)
    have L5ba := Lib.hid (L4ba.out.kc k5)
    have L5in := Lib.hid (L4in.out.kc k5)
    have L5ni := Lib.hid (L4ni.out.kc k5)
    have L5s5 := Lib.hid p5
    obtain ⟨q5, t5, rfl, _⟩ := p5
    clear g5 k5 BX4 BB4 L4A L4B L4C L4ab L4ba L4in L4ni
    go_wp2_with fail
    refine (do_any x0 x1 x2 orB 23 Try.call23 union_any _ _ _ _ bb _ BX5.out L5s5.out L5C.out).mono ?_
    rintro e v6 ⟨z6, rfl, p6, k6, g6⟩
    have BX6 := Lib.hid (BX5.out.kc k6)
    have BB6 := Lib.hid (BB5.out.trans (g6.mono HGE.out))
    have L6A := Lib.hid (L5A.out.kc k6)
    have L6B := Lib.hid (L5B.out.kc k6)
    have L6C := Lib.hid (L5C.out.kc k6)
    have L6ab := Lib.hid (L5ab.out.kc k6)
    have L6ba := Lib.hid (L5ba.out.kc k6)
    have L6in := Lib.hid (L5in.out.kc k6)
    have L6ni := Lib.hid (L5ni.out.kc k6)
    have L6left := Lib.hid p6
    obtain ⟨q6, t6, rfl, _⟩ := p6
    clear g6 k6 BX5 BB5 L5A L5B L5C L5ab L5ba L5in L5ni L5s5
    go_wp2_with fail
    refine (do_any x0 x1 x2 orB 23 Try.call23 union_any _ _ _ _ bb _ BX6.out L6B.out L6C.out).mono ?_
    rintro e v7 ⟨z7, rfl, p7, k7, g7⟩
    have BX7 := Lib.hid (BX6.out.kc k7)
    have BB7 := Lib.hid (BB6.out.trans (g7.mono HGE.out))
    have L7A := Lib.hid (L6A.out.kc k7)
    have L7B := Lib.hid (L6B.out.kc k7)
    have L7C := Lib.hid (L6C.out.kc k7)
    have L7ab := Lib.hid (L6ab.out.kc k7)
    have L7ba := Lib.hid (L6ba.out.kc k7)
    have L7in := Lib.hid (L6in.out.kc k7)
    have L7ni := Lib.hid (L6ni.out.kc k7)
    have L7left := Lib.hid (L6left.out.kc k7)
    have L7s7 := Lib.hid p7
    obtain ⟨q7, t7, rfl, _⟩ := p7
    clear g7 k7 BX6 BB6 L6A L6B L6C L6ab L6ba L6in L6ni L6left
    go_wp2_with fail
    refine (do_any x0 x1 x2 orB 23 Try.call23 union_any _ _ _ _ bb _ BX7.out L7A.out L7s7.out).mono ?_
    rintro e v8 ⟨z8, rfl, p8, k8, g8⟩
    have BX8 := Lib.hid (BX7.out.kc k8)
    have BB8 := Lib.hid (BB7.out.trans (g8.mono HGE.out))
    have L8A := Lib.hid (L7A.out.kc k8)
    have L8B := Lib.hid (L7B.out.kc k8)
    have L8C := Lib.hid (L7C.out.kc k8)
    have L8ab := Lib.hid (L7ab.out.kc k8)
    have L8ba := Lib.hid (L7ba.out.kc k8)
    have L8in := Lib.hid (L7in.out.kc k8)
    have L8ni := Lib.hid (L7ni.out.kc k8)
    have L8left := Lib.hid (L7left.out.kc k8)
    have L8right := Lib.hid p8
    obtain ⟨q8, t8, rfl, _⟩ := p8
    clear g8 k8 BX7 BB7 L7A L7B L7C L7ab L7ba L7in L7ni L7left L7s7
    go_wp2_with fail
    refine (do_any x0 x1 x2 orB 23 Try.call23 union_any _ _ _ _ bb _ BX8.out L8B.out L8C.out).mono ?_
    rintro e v9 ⟨z9, rfl, p9, k9, g9⟩
    have BX9 := Lib.hid (BX8.out.kc k9)
    have BB9 := Lib.hid (BB8.out.trans (g9.mono HGE.out))
    have L9A := Lib.hid (L8A.out.kc k9)
    have L9B := Lib.hid (L8B.out.kc k9)
    have L9C := Lib.hid (L8C.out.kc k9)
    have L9ab := Lib.hid (L8ab.out.kc k9)
    have L9ba := Lib.hid (L8ba.out.kc k9)
    have L9in := Lib.hid (L8in.out.kc k9)
    have L9ni := Lib.hid (L8ni.out.kc k9)
    have L9left := Lib.hid (L8left.out.kc k9)
    have L9right := Lib.hid (L8right.out.kc k9)
    have L9s9 := Lib.hid p9
    obtain ⟨q9, t9, rfl, _⟩ := p9
    clear g9 k9 BX8 BB8 L8A L8B L8C L8ab L8ba L8in L8ni L8left L8right
    go_wp2_with fail
    refine (do_any x0 x1 x2 andB 25 Try.call25 intersect_any _ _ _ _ bb _ BX9.out L9A.out L9s9.out).mono ?_
    rintro e v10 ⟨z10, rfl, p10, k10, g10⟩
    have BX10 := Lib.hid (BX9.out.kc k10)
    have BB10 := Lib.hid (BB9.out.trans (g10.mono HGE.out))
    have L10A := Lib.hid (L9A.out.kc k10)
    have L10B := Lib.hid (L9B.out.kc k10)
    have L10C := Lib.hid (L9C.out.kc k10)
    have L10ab := Lib.hid (L9ab.out.kc k10)
    have L10ba := Lib.hid (L9ba.out.kc k10)
    have L10in := Lib.hid (L9in.out.kc k10)
    have L10ni := Lib.hid (L9ni.out.kc k10)
    have L10left := Lib.hid (L9left.out.kc k10)
    have L10right := Lib.hid (L9right.out.kc k10)
    have L10mixed := Lib.hid p10
    obtain ⟨q10, t10, rfl, _⟩ := p10
    clear g10 k10 BX9 BB9 L9A L9B L9C L9ab L9ba L9in L9ni L9left L9right L9s9
    go_wp2_with fail
    refine (do_any x0 x1 x2 andB 25 Try.call25 intersect_any _ _ _ _ bb _ BX10.out L10A.out L10B.out).mono ?_
    rintro e v11 ⟨z11, rfl, p11, k11, g11⟩
    have BX11 := Lib.hid (BX10.out.kc k11)
    have BB11 := Lib.hid (BB10.out.trans (g11.mono HGE.out))
    have L11A := Lib.hid (L10A.out.kc k11)
    have L11B := Lib.hid (L10B.out.kc k11)
    have L11C := Lib.hid (L10C.out.kc k11)
    have L11ab := Lib.hid (L10ab.out.kc k11)
    have L11ba := Lib.hid (L10ba.out.kc k11)
    have L11in := Lib.hid (L10in.out.kc k11)
    have L11ni := Lib.hid (L10ni.out.kc k11)
    have L11left := Lib.hid (L10left.out.kc k11)
    have L11right := Lib.hid (L10right.out.kc k11)
    have L11mixed := Lib.hid (L10mixed.out.kc k11)
    have L11s11 := Lib.hid p11
    obtain ⟨q11, t11, rfl, _⟩ := p11
    clear g11 k11 BX10 BB10 L10A L10B L10C L10ab L10ba L10in L10ni L10left L10right L10mixed
    go_wp2_with fail
    refine (do_any x0 x1 x2 andB 25 Try.call25 intersect_any _ _ _ _ bb _ BX11.out L11A.out L11C.out).mono ?_
    rintro e v12 ⟨z12, rfl, p12, k12, g12⟩
    have BX12 := Lib.hid (BX11.out.kc k12)
    have BB12 := Lib.hid (BB11.out.trans (g12.mono HGE.out))
    have L12A := Lib.hid (L11A.out.kc k12)
    have L12B := Lib.hid (L11B.out.kc k12)
    have L12C := Lib.hid (L11C.out.kc k12)
    have L12ab := Lib.hid (L11ab.out.kc k12)
    have L12ba := Lib.hid (L11ba.out.kc k12)
    have L12in := Lib.hid (L11in.out.kc k12)
    have L12ni := Lib.hid (L11ni.out.kc k12)
    have L12left := Lib.hid (L11left.out.kc k12)
    have L12right := Lib.hid (L11right.out.kc k12)
    have L12mixed := Lib.hid (L11mixed.out.kc k12)
    have L12s11 := Lib.hid (L11s11.out.kc k12)
    have L12s12 := Lib.hid p12
    obtain ⟨q12, t12, rfl, _⟩ := p12
    clear g12 k12 BX11 BB11 L11A L11B L11C L11ab L11ba L11in L11ni L11left L11right L11mixed L11s11
    go_wp2_with fail
    refine (do_any x0 x1 x2 orB 23 Try.call23 union_any _ _ _ _ bb _ BX12.out L12s11.out L12s12.out).mono ?_
    rintro e v13 ⟨z13, rfl, p13, k13, g13⟩
    have BX13 := Lib.hid (BX12.out.kc k13)
    have BB13 := Lib.hid (BB12.out.trans (g13.mono HGE.out))
    have L13A := Lib.hid (L12A.out.kc k13)
    have L13B := Lib.hid (L12B.out.kc k13)
    have L13C := Lib.hid (L12C.out.kc k13)
    have L13ab := Lib.hid (L12ab.out.kc k13)
    have L13ba := Lib.hid (L12ba.out.kc k13)
    have L13in := Lib.hid (L12in.out.kc k13)
    have L13ni := Lib.hid (L12ni.out.kc k13)
    have L13left := Lib.hid (L12left.out.kc k13)
    have L13right := Lib.hid (L12right.out.kc k13)
    have L13mixed := Lib.hid (L12mixed.out.kc k13)
    have L13each := Lib.hid p13
    obtain ⟨q13, t13, rfl, _⟩ := p13
    clear g13 k13 BX12 BB12 L12A L12B L12C L12ab L12ba L12in L12ni L12left L12right L12mixed L12s11 L12s12
    go_wp2_with fail
    refine (do_any x0 x1 x2 andB 25 Try.call25 intersect_any _ _ _ _ bb _ BX13.out L13A.out L13B.out).mono ?_
    rintro e v14 ⟨z14, rfl, p14, k14, g14⟩
    have BX14 := Lib.hid (BX13.out.kc k14)
    have BB14 := Lib.hid (BB13.out.trans (g14.mono HGE.out))
    have L14A := Lib.hid (L13A.out.kc k14)
    have L14B := Lib.hid (L13B.out.kc k14)
    have L14C := Lib.hid (L13C.out.kc k14)
    have L14ab := Lib.hid (L13ab.out.kc k14)
    have L14ba := Lib.hid (L13ba.out.kc k14)
    have L14in := Lib.hid (L13in.out.kc k14)
    have L14ni := Lib.hid (L13ni.out.kc k14)
    have L14left := Lib.hid (L13left.out.kc k14)
    have L14right := Lib.hid (L13right.out.kc k14)
    have L14mixed := Lib.hid (L13mixed.out.kc k14)
    have L14each := Lib.hid (L13each.out.kc k14)
    have L14s14 := Lib.hid p14
    obtain ⟨q14, t14, rfl, _⟩ := p14
    clear g14 k14 BX13 BB13 L13A L13B L13C L13ab L13ba L13in L13ni L13left L13right L13mixed L13each
    go_wp2_with fail
    refine (do_any x0 x1 x2 minB 27 Try.call27 minus_any _ _ _ _ bb _ BX14.out L14A.out L14B.out).mono ?_
    rintro e v15 ⟨z15, rfl, p15, k15, g15⟩
    have BX15 := Lib.hid (BX14.out.kc k15)
    have BB15 := Lib.hid (BB14.out.trans (g15.mono HGE.out))
    have L15A := Lib.hid (L14A.out.kc k15)
    have L15B := Lib.hid (L14B.out.kc k15)
    have L15C := Lib.hid (L14C.out.kc k15)
    have L15ab := Lib.hid (L14ab.out.kc k15)
    have L15ba := Lib.hid (L14ba.out.kc k15)
    have L15in := Lib.hid (L14in.out.kc k15)
    have L15ni := Lib.hid (L14ni.out.kc k15)
    have L15left := Lib.hid (L14left.out.kc k15)
    have L15right := Lib.hid (L14right.out.kc k15)
    have L15mixed := Lib.hid (L14mixed.out.kc k15)
    have L15each := Lib.hid (L14each.out.kc k15)
    have L15s14 := Lib.hid (L14s14.out.kc k15)
    have L15s15 := Lib.hid p15
    obtain ⟨q15, t15, rfl, _⟩ := p15
    clear g15 k15 BX14 BB14 L14A L14B L14C L14ab L14ba L14in L14ni L14left L14right L14mixed L14each L14s14
    go_wp2_with fail
    refine (do_any x0 x1 x2 orB 23 Try.call23 union_any _ _ _ _ bb _ BX15.out L15s14.out L15s15.out).mono ?_
    rintro e v16 ⟨z16, rfl, p16, k16, g16⟩
    have BX16 := Lib.hid (BX15.out.kc k16)
    have BB16 := Lib.hid (BB15.out.trans (g16.mono HGE.out))
    have L16A := Lib.hid (L15A.out.kc k16)
    have L16B := Lib.hid (L15B.out.kc k16)
    have L16C := Lib.hid (L15C.out.kc k16)
    have L16ab := Lib.hid (L15ab.out.kc k16)
    have L16ba := Lib.hid (L15ba.out.kc k16)
    have L16in := Lib.hid (L15in.out.kc k16)
    have L16ni := Lib.hid (L15ni.out.kc k16)
    have L16left := Lib.hid (L15left.out.kc k16)
    have L16right := Lib.hid (L15right.out.kc k16)
    have L16mixed := Lib.hid (L15mixed.out.kc k16)
    have L16each := Lib.hid (L15each.out.kc k16)
    have L16whole := Lib.hid p16
    obtain ⟨q16, t16, rfl, _⟩ := p16
    clear g16 k16 BX15 BB15 L15A L15B L15C L15ab L15ba L15in L15ni L15left L15right L15mixed L15each L15s14 L15s15
    have hok := BX16.out.cell
    go_wp2_with fail
    refine (equal_at _ _ true (by rw [decide_eq_true_eq]; exact T3_eq (by decide)) _ _ _ L16ab.out L16ba.out (T3_le _ _ _ _) (T3_le _ _ _ _)).mono ?_
    rintro e v17 ⟨rfl, g17⟩
    have BB17 := Lib.hid (BB16.out.trans (g17.mono BB16.out.size))
    have L17A := Lib.hid (L16A.out.below g17)
    have L17B := Lib.hid (L16B.out.below g17)
    have L17C := Lib.hid (L16C.out.below g17)
    have L17in := Lib.hid (L16in.out.below g17)
    have L17ni := Lib.hid (L16ni.out.below g17)
    have L17left := Lib.hid (L16left.out.below g17)
    have L17right := Lib.hid (L16right.out.below g17)
    have L17mixed := Lib.hid (L16mixed.out.below g17)
    have L17each := Lib.hid (L16each.out.below g17)
    have L17whole := Lib.hid (L16whole.out.below g17)
    clear g17 BB16 L16A L16B L16C L16ab L16ba L16in L16ni L16left L16right L16mixed L16each L16whole
    clear hok
    go_wp2_with fail
    refine (equal_at _ _ true (by rw [decide_eq_true_eq]; exact T3_eq (by decide)) _ _ _ L17in.out L17ni.out (T3_le _ _ _ _) (T3_le _ _ _ _)).mono ?_
    rintro e v18 ⟨rfl, g18⟩
    have BB18 := Lib.hid (BB17.out.trans (g18.mono BB17.out.size))
    have L18A := Lib.hid (L17A.out.below g18)
    have L18B := Lib.hid (L17B.out.below g18)
    have L18C := Lib.hid (L17C.out.below g18)
    have L18left := Lib.hid (L17left.out.below g18)
    have L18right := Lib.hid (L17right.out.below g18)
    have L18mixed := Lib.hid (L17mixed.out.below g18)
    have L18each := Lib.hid (L17each.out.below g18)
    have L18whole := Lib.hid (L17whole.out.below g18)
    clear g18 BB17 L17A L17B L17C L17in L17ni L17left L17right L17mixed L17each L17whole
    go_wp2_with fail
    refine (equal_at _ _ true (by rw [decide_eq_true_eq]; exact T3_eq (by decide)) _ _ _ L18left.out L18right.out (T3_le _ _ _ _) (T3_le _ _ _ _)).mono ?_
    rintro e v19 ⟨rfl, g19⟩
    have BB19 := Lib.hid (BB18.out.trans (g19.mono BB18.out.size))
    have L19A := Lib.hid (L18A.out.below g19)
    have L19B := Lib.hid (L18B.out.below g19)
    have L19C := Lib.hid (L18C.out.below g19)
    have L19mixed := Lib.hid (L18mixed.out.below g19)
    have L19each := Lib.hid (L18each.out.below g19)
    have L19whole := Lib.hid (L18whole.out.below g19)
    clear g19 BB18 L18A L18B L18C L18left L18right L18mixed L18each L18whole
    go_wp2_with fail
    refine (equal_at _ _ true (by rw [decide_eq_true_eq]; exact T3_eq (by decide)) _ _ _ L19mixed.out L19each.out (T3_le _ _ _ _) (T3_le _ _ _ _)).mono ?_
    rintro e v20 ⟨rfl, g20⟩
    have BB20 := Lib.hid (BB19.out.trans (g20.mono BB19.out.size))
    have L20A := Lib.hid (L19A.out.below g20)
    have L20B := Lib.hid (L19B.out.below g20)
    have L20C := Lib.hid (L19C.out.below g20)
    have L20whole := Lib.hid (L19whole.out.below g20)
    clear g20 BB19 L19A L19B L19C L19mixed L19each L19whole
    go_wp2_with fail
    refine (equal_at _ _ true (by rw [decide_eq_true_eq]; exact T3_eq (by decide)) _ _ _ L20whole.out L20A.out (T3_le _ _ _ _) (T3_le _ _ _ _)).mono ?_
    rintro e v21 ⟨rfl, g21⟩
    have BB21 := Lib.hid (BB20.out.trans (g21.mono BB20.out.size))
    have L21A := Lib.hid (L20A.out.below g21)
    have L21B := Lib.hid (L20B.out.below g21)
    have L21C := Lib.hid (L20C.out.below g21)
    clear g21 BB20 L20A L20B L20C L20whole
    go_wp2_with fail
    refine (awake_any _).mono ?_
    rintro e v22 ⟨rfl, g22⟩
    have BB22 := Lib.hid (BB21.out.trans (g22.mono BB21.out.size))
    clear g22
    go_wp2
    go_ret
    exact ⟨rfl, BB22.out⟩
  · have HF := Lib.hid (fine_three w w0 w1 w2 false (by rw [decide_eq_false_iff_not]; exact hok))
    obtain ⟨a0, c0, rfl, _⟩ := w0
    obtain ⟨a1, c1, rfl, _⟩ := w1
    obtain ⟨a2, c2, rfl, _⟩ := w2
    clear hok
    go_enter Try.func6, Try.ntmps6
    go_wp2_with fail
    refine HF.out.mono ?_
    rintro e v1 ⟨rfl, g1⟩
    have G1 := Lib.hid g1
    clear g1
    go_wp2_with fail
    refine (awake_any _).mono ?_
    rintro e v2 ⟨rfl, g2⟩
    have G2 := Lib.hid (below_then G1.out g2)
    clear g2
    go_wp2
    go_ret
    exact ⟨rfl, G2.out⟩
end Go.Proofs.Ytdplcpnahahkaaa
