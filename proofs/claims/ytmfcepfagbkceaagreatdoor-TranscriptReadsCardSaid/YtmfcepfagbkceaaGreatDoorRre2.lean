/- Stage 10 (transcript): TrRefH TrRefI TrRefP, put together by merge10.py. -/
import Derived.Test.YtmfcepfagbkceaaGreatDoorRw
import Derived.Test.YtmfcepfagbkceaaGreatDoorRr
import Derived.Test.YtmfcepfagbkceaaGreatDoorRrc
import Derived.Test.YtmfcepfagbkceaaGreatDoorRrd
import Derived.Test.YtmfcepfagbkceaaGreatDoorRre
namespace Go.Proofs.YtmfcepfagbkceaaGreatDoor
set_option linter.unusedSimpArgs false
set_option linter.unusedVariables false
set_option maxRecDepth 100000
open Go.RowKit Go.Shelf Go.Deep
theorem nm_kOf {n : Bs} (hn : isTag n = true) (j : Nat) (h1 : 2 ≤ j) (h2 : j ≤ 11) : (nmK j == n) = decide ((j : Int) = kOf n) := by
  rw [beq_bs]
  have hj : j = 2 ∨ j = 3 ∨ j = 4 ∨ j = 5 ∨ j = 6 ∨ j = 7 ∨ j = 8 ∨ j = 9 ∨ j = 10 ∨ j = 11 := by omega
  unfold isTag tagsL at hn
  simp only [List.contains_cons, List.contains_nil, Bool.or_false, Bool.or_eq_true, beq_iff_eq] at hn
  rcases hn with rfl | rfl | rfl | rfl | rfl | rfl | rfl | rfl | rfl | rfl <;> rcases hj with rfl | rfl | rfl | rfl | rfl | rfl | rfl | rfl | rfl | rfl <;> decide
def NodeW (w : World) (k : Int) (n v : Bs) (o : Int) (c : Int) (W : World) : Prop :=
  W.heap[w.heap.size]? = some (.cells #[intV k, sV n, sV v, intV o] 52 (0, 0)) ∧ W.heap[w.heap.size + 1]? = some (.cells #[.int .i64 0, .string ⟨#[]⟩, .int .i64 0, .slice none 0 0] nT (0, 0)) ∧
    W.heap[w.heap.size + 1 + 1]? = some (.cells #[intV c, .string ⟨#[]⟩, .int .i64 0, .slice none 0 0] nT (0, 0)) ∧ Below w.heap.size w W
theorem NodeW.below {w W W' : World} {k : Int} {n v : Bs} {o c : Int} (h : NodeW w k n v o c W) (hb : Below W.heap.size W W') : NodeW w k n v o c W' :=
  ⟨(hb.block _ (heap_ltT h.1)).trans h.1, (hb.block _ (heap_ltT h.2.1)).trans h.2.1, (hb.block _ (heap_ltT h.2.2.1)).trans h.2.2.1, below_then h.2.2.2 hb⟩
theorem NodeW.set {w W : World} {k : Int} {n v : Bs} {o c : Int} (h : NodeW w k n v o c W) (c' : Int) : NodeW w k n v o c' (W.setCell ⟨w.heap.size + 1 + 1, 0, none⟩ (intV c')) :=
  ⟨(Below.heap_setCell _ _ _ _ (by show w.heap.size ≠ w.heap.size + 1 + 1; omega)).trans h.1, (Below.heap_setCell _ _ _ _ (by show w.heap.size + 1 ≠ w.heap.size + 1 + 1; omega)).trans h.2.1, set_step 0 (intV c') h.2.2.1,
    h.2.2.2.setCell (p := ⟨w.heap.size + 1 + 1, 0, none⟩) (by show w.heap.size ≤ w.heap.size + 1 + 1; omega) _⟩
set_option maxHeartbeats 4000000 in
theorem refNode_text (n v : Bs) (o : Int) (w : World) :
    Calls Tryz.prog 73 #[.agg #[intV 1, sV n, sV v, intV o]] w fun e w' => e = .returned (.agg #[intV 1, sV v, intV 0, .slice none 0 0]) ∧ Below w.heap.size w w' := by
  obtain ⟨w2, hw2⟩ : ∃ X, ((w.alloc (.cells #[intV 1, sV n, sV v, intV o] 52 (0, 0))).alloc (.cells #[.int .i64 0, .string ⟨#[]⟩, .int .i64 0, .slice none 0 0] nT (0, 0))) = X := ⟨_, rfl⟩
  obtain ⟨s2, k0, k1, kb⟩ := heap_allocT2 w _ _ hw2
  obtain ⟨p0, p1, p2, p3⟩ := box4T k0
  obtain ⟨q0, q1, q2, q3⟩ := box4T k1
  have r0 := heap_free k1 0
  have r1 := heap_free k1 1
  have r2 := heap_free k1 2
  have r3 := heap_free k1 3
  have HW := Lib.hid hw2
  have HK := Lib.hid (And.intro k1 kb)
  clear hw2 k0 k1 kb s2
  go_enter Tryz.func73, Tryz.ntmps73
  go_upto_region 1 with fail
  rw [HW.out]
  go_wp2
  obtain ⟨z1, z2, z3⟩ := set4P (N := w.heap.size) HK.out.1 (by omega) rfl
  refine bodyPost_ret (v := .agg #[intV 1, sV v, intV 0, .slice none 0 0]) ?_ rfl ⟨rfl, HK.out.2.trans z3⟩
  obtain ⟨y0, y1, y2, y3⟩ := heap4P z1
  simp [results, Tryz.f73, go_sem, y0, y1, y2, y3]
set_option maxHeartbeats 4000000 in
theorem refNode_tag (k : Int) (hk : (k == 1) = false) (n v : Bs) (o : Int) (hn : isTag n = true) (hz : numsK (kOf n) = true → Lib.atoiAll v = .ok (atoiV v)) (hl : v.length ≤ 1048576) (w : World) [T w] :
    Calls Tryz.prog 73 #[.agg #[intV k, sV n, sV v, intV o]] w fun e w' =>
      e = .returned (.agg #[intV (kOf n), sV (if textsK (kOf n) then v else []), intV (if numsK (kOf n) then atoiV v else 0), .slice none 0 0]) ∧ Below w.heap.size w w' := by
  have hr := kOf_range hn
  have hnm := nm_kOf hn
  obtain ⟨kk, hkk⟩ : ∃ kk, kOf n = kk := ⟨_, rfl⟩
  rw [hkk] at hr hz hnm
  rw [hkk]
  obtain ⟨tt, htt⟩ : ∃ tt, (if textsK kk then v else []) = tt := ⟨_, rfl⟩
  obtain ⟨nn, hnn⟩ : ∃ nn, (if numsK kk then atoiV v else 0) = nn := ⟨_, rfl⟩
  rw [htt, hnn]
  have HTT := Lib.hid htt
  have HNN := Lib.hid hnn
  clear htt hnn
  obtain ⟨w2, hw2⟩ : ∃ X, (((w.alloc (.cells #[intV k, sV n, sV v, intV o] 52 (0, 0))).alloc (.cells #[.int .i64 0, .string ⟨#[]⟩, .int .i64 0, .slice none 0 0] nT (0, 0))).alloc (.cells #[.int .i64 0, .string ⟨#[]⟩, .int .i64 0, .slice none 0 0] nT (0, 0))) = X := ⟨_, rfl⟩
  obtain ⟨s2, k0, k1, k2, kb⟩ := blocks3T w _ _ _ hw2
  have HN0 := Lib.hid (show NodeW w k n v o 0 w2 from ⟨k0, k1, k2, kb⟩)
  have HW := Lib.hid hw2
  have HNM := Lib.hid hnm
  have HZ := Lib.hid hz
  have tn := baL_tl n
  have hk' := hk
  have kx : (((w.alloc (.cells #[intV k, sV n, sV v, intV o] 52 (0, 0))).alloc (.cells #[.int .i64 0, .string ⟨#[]⟩, .int .i64 0, .slice none 0 0] nT (0, 0)))).cell? ⟨w.heap.size, 0, none⟩ = some (intV k) := by
    obtain ⟨_, g0, _, _⟩ := heap_allocT2 w _ _ (rfl : ((w.alloc (.cells #[intV k, sV n, sV v, intV o] 52 (0, 0))).alloc (.cells #[.int .i64 0, .string ⟨#[]⟩, .int .i64 0, .slice none 0 0] nT (0, 0))) = _)
    exact (box4T g0).1
  clear hw2 k0 k1 k2 kb s2 hn hnm hz hkk
  go_enter Tryz.func73, Tryz.ntmps73
  go_upto_region 4 with fail
  rw [HW.out]
  clear kx
  go_wp2
  go_loopw [4] (fun kv wr => ∃ j : Nat, 2 ≤ j ∧ j ≤ 12 ∧ kv = .int .i64 j ∧ Hid (NodeW w k n v o (if kk < (j : Int) then kk else 0) wr)) (fun kv _ => 12 - (intOf kv).toNat)
  case atStart => exact ⟨2, by omega, by omega, rfl, Lib.hid (by rw [if_neg (by have := hr.1; simp; omega)]; exact HN0.out)⟩
  case round =>
    obtain ⟨j, hj2, hj12, rfl, HN⟩ := hrel
    obtain ⟨wk, rfl⟩ : ∃ x, x = wr := ⟨_, rfl⟩
    by_cases hlt : j ≤ 11
    · have i1 : decide ((j : Int) ≤ 11) = true := decide_eq_true (by omega)
      have i1' : (j : Int) ≤ 11 := by omega
      have hcmp := HNM.out j hj2 hlt
      have HC := Lib.hid (fun W => refName10_any (j : Int) (by omega) W)
      obtain ⟨nj, hnj⟩ : ∃ nj, nmK (j : Int) = nj := ⟨_, rfl⟩
      rw [hnj] at hcmp HC
      have tj := baL_tl nj
      have hbx := HN.out.2.2.1
      have f0 := heap_free hbx 0
      obtain ⟨cc, hcc⟩ : ∃ cc, (if kk < (j : Int) then kk else 0) = cc := ⟨_, rfl⟩
      rw [hcc] at HN hbx
      obtain ⟨e0, _, _, _⟩ := box4T hbx
      have HD := Lib.hid (show wk.drew.cell? ⟨w.heap.size, 1, none⟩ = some (sV n) from (box4T HN.out.1).2.1)
      have HND := Lib.hid (HN.out.below (below_drew1S wk))
      clear hbx hnj
      by_cases hjk : (j : Int) = kk
      · have qb : (nj == n) = true := by rw [hcmp]; simp [hjk]
        have HS := Lib.hid (show (if kk < ((j + 1 : Nat) : Int) then kk else 0) = kk by rw [if_pos (by omega)])
        have HJK := Lib.hid hjk
        clear hcmp hjk hcc
        go_upto_region 7 with fail
        refine wp_region_noPanic ?_
        refine wp_region_any (by kernel_rfl) (wpAny_of_k (S := fun _ => True) (S' := fun W' => W'.cell? ⟨w.heap.size, 1, none⟩ = some (sV n)) (k := 99) _ _ _ _ ?_)
        change wpAnyK _ _ _ _ _ _ _ 5 _ _ wk.drew
        refine wpAnyK_takeD (i := 0) (v := .int .i64 j) (some 16) rfl rfl (by kernel_rfl) (by kernel_rfl) (by kernel_rfl) (by decide) (fun _ _ _ h => h) (Or.inl ⟨by rfl, fun w' hw' => ?_⟩) (fun _ => trivial) (HD.out) ?_
        · go_simp
        (try simp only [Act.put, List.setIfInBounds_toArray, List.set_cons_zero, List.set_cons_succ])
        refine wpAnyK_takeD (i := 2) (v := .pointer (some ⟨w.heap.size, 1, none⟩)) (some 18) rfl rfl (by kernel_rfl) (by kernel_rfl) (by kernel_rfl) (by decide) (fun _ _ _ h => h) (Or.inl ⟨by rfl, fun w' hw' => ?_⟩) (fun _ => trivial) (HD.out) ?_
        · go_simp
        (try simp only [Act.put, List.setIfInBounds_toArray, List.set_cons_zero, List.set_cons_succ])
        refine wpAnyK_takeD (i := 3) (v := sV n) (some 19) rfl rfl (by kernel_rfl) (by kernel_rfl) (by kernel_rfl) (by decide) (fun _ _ _ h => h) (Or.inl ⟨by rfl, fun w' hw' => ?_⟩) (fun _ => trivial) (HD.out) ?_
        · have b1 := hw'; go_simp
        (try simp only [Act.put, List.setIfInBounds_toArray, List.set_cons_zero, List.set_cons_succ])
        refine wpAnyK_all (rs := [1]) (by kernel_rfl) (by simp) ?_
        intro i' hi'
        obtain rfl := List.mem_singleton.1 hi'
        clear hi'
        refine wpOp_step rfl fun K hK => ?_
        go_simp
        go_at_call 77
        refine (HC.out _).mono ?_
        rintro e' w4 ⟨rfl, h4⟩
        have HN4 := Lib.hid (HND.out.below h4)
        have HD4 := Lib.hid (show w4.cell? ⟨w.heap.size, 1, none⟩ = some (sV n) from (box4T HN4.out.1).2.1)
        clear h4
        refine hK _ _ ⟨fun _ => trivial, HD4.out, ?_⟩
        clear hK K
        (try simp only [Act.put, List.setIfInBounds_toArray, List.set_cons_zero, List.set_cons_succ])
        refine wpAnyK_takeD (i := 4) (v := .bool true) (some 20) rfl rfl (by kernel_rfl) (by kernel_rfl) (by kernel_rfl) (by decide) (fun _ _ _ h => h) (Or.inl ⟨by rfl, fun w' hw' => ?_⟩) (fun _ => trivial) (HD4.out) ?_
        · go_simp
        (try simp only [Act.put, List.setIfInBounds_toArray, List.set_cons_zero, List.set_cons_succ])
        refine wpAnyK_done (by kernel_rfl) ?_ _
        refine NoPanic.normal ?_
        have hbx4 := HN4.out.2.2.1
        have f4 := heap_free hbx4 0
        obtain ⟨e4, _, _, _⟩ := box4T hbx4
        clear hbx4
        go_wp2
        go_roundw
        case rel => exact ⟨j + 1, by omega, by omega, by go_num, Lib.hid (by rw [HS.out]; have h := HN4.out.set (j : Int); rwa [HJK.out] at h ⊢)⟩
        case measure => simp [intOf]; omega
      · have qb : (nj == n) = false := by rw [hcmp]; simp [hjk]
        have HS := Lib.hid (show (if kk < ((j + 1 : Nat) : Int) then kk else 0) = cc by
          rw [← hcc]
          by_cases h : kk < (j : Int)
          · rw [if_pos h, if_pos (by omega)]
          · rw [if_neg h, if_neg (by omega)])
        clear hcmp hjk hcc
        go_upto_region 7 with fail
        refine wp_region_noPanic ?_
        refine wp_region_any (by kernel_rfl) (wpAny_of_k (S := fun _ => True) (S' := fun W' => W'.cell? ⟨w.heap.size, 1, none⟩ = some (sV n)) (k := 99) _ _ _ _ ?_)
        change wpAnyK _ _ _ _ _ _ _ 5 _ _ wk.drew
        refine wpAnyK_takeD (i := 0) (v := .int .i64 j) (some 16) rfl rfl (by kernel_rfl) (by kernel_rfl) (by kernel_rfl) (by decide) (fun _ _ _ h => h) (Or.inl ⟨by rfl, fun w' hw' => ?_⟩) (fun _ => trivial) (HD.out) ?_
        · go_simp
        (try simp only [Act.put, List.setIfInBounds_toArray, List.set_cons_zero, List.set_cons_succ])
        refine wpAnyK_takeD (i := 2) (v := .pointer (some ⟨w.heap.size, 1, none⟩)) (some 18) rfl rfl (by kernel_rfl) (by kernel_rfl) (by kernel_rfl) (by decide) (fun _ _ _ h => h) (Or.inl ⟨by rfl, fun w' hw' => ?_⟩) (fun _ => trivial) (HD.out) ?_
        · go_simp
        (try simp only [Act.put, List.setIfInBounds_toArray, List.set_cons_zero, List.set_cons_succ])
        refine wpAnyK_takeD (i := 3) (v := sV n) (some 19) rfl rfl (by kernel_rfl) (by kernel_rfl) (by kernel_rfl) (by decide) (fun _ _ _ h => h) (Or.inl ⟨by rfl, fun w' hw' => ?_⟩) (fun _ => trivial) (HD.out) ?_
        · have b1 := hw'; go_simp
        (try simp only [Act.put, List.setIfInBounds_toArray, List.set_cons_zero, List.set_cons_succ])
        refine wpAnyK_all (rs := [1]) (by kernel_rfl) (by simp) ?_
        intro i' hi'
        obtain rfl := List.mem_singleton.1 hi'
        clear hi'
        refine wpOp_step rfl fun K hK => ?_
        go_simp
        go_at_call 77
        refine (HC.out _).mono ?_
        rintro e' w4 ⟨rfl, h4⟩
        have HN4 := Lib.hid (HND.out.below h4)
        have HD4 := Lib.hid (show w4.cell? ⟨w.heap.size, 1, none⟩ = some (sV n) from (box4T HN4.out.1).2.1)
        clear h4
        refine hK _ _ ⟨fun _ => trivial, HD4.out, ?_⟩
        clear hK K
        (try simp only [Act.put, List.setIfInBounds_toArray, List.set_cons_zero, List.set_cons_succ])
        refine wpAnyK_takeD (i := 4) (v := .bool false) (some 20) rfl rfl (by kernel_rfl) (by kernel_rfl) (by kernel_rfl) (by decide) (fun _ _ _ h => h) (Or.inl ⟨by rfl, fun w' hw' => ?_⟩) (fun _ => trivial) (HD4.out) ?_
        · go_simp
        (try simp only [Act.put, List.setIfInBounds_toArray, List.set_cons_zero, List.set_cons_succ])
        refine wpAnyK_done (by kernel_rfl) ?_ _
        refine NoPanic.normal ?_
        go_wp2
        go_roundw
        case rel => exact ⟨j + 1, by omega, by omega, by go_num, Lib.hid (by rw [HS.out]; exact HN4.out)⟩
        case measure => simp [intOf]; omega
    · have i1 : decide ((j : Int) ≤ 11) = false := decide_eq_false (by omega)
      have HN2 := Lib.hid (show NodeW w k n v o kk wk by have h := HN.out; rwa [if_pos (by omega)] at h)
      have hb1 := HN2.out.1
      have hb2 := HN2.out.2.1
      have hb3 := HN2.out.2.2.1
      obtain ⟨p0, p1, p2, p3⟩ := box4T hb1
      obtain ⟨q0, q1, q2, q3⟩ := box4T hb2
      obtain ⟨r0, r1, r2, r3⟩ := box4T hb3
      have f0 := heap_free hb2 0
      have f1 := heap_free hb2 1
      have f2 := heap_free hb2 2
      have f3 := heap_free hb2 3
      have g1 := heap_free hb3 1
      have g2 := heap_free hb3 2
      have n1 : w.heap.size + 1 ≠ w.heap.size + 1 + 1 := by omega
      have n2 : w.heap.size ≠ w.heap.size + 1 + 1 := by omega
      clear HN hb1 hb2 hb3
      cases htb : textsK kk
      · cases hnb : numsK kk
        · go_wp2_with (first | (go_at_call 78; refine (texts_any kk _ htb _).mono ?_; rintro e5 w5 ⟨rfl, hw5⟩; rw [hw5]; clear hw5 w5) | (go_at_call 79; refine (numbers_any kk _ hnb _).mono ?_; rintro e5 w5 ⟨rfl, hw5⟩; rw [hw5]; clear hw5 w5))
          obtain ⟨z1, z2, z3⟩ := set4P (N := w.heap.size) (w1 := wk) (b := w.heap.size + 1) (x0 := intV kk) (x1 := .string ⟨#[]⟩) (x2 := .int .i64 0) (x3 := .slice none 0 0) HN2.out.2.1 (by omega) rfl
          refine bodyPost_ret (v := .agg #[intV kk, sV [], intV 0, .slice none 0 0]) ?_ rfl ⟨by rw [show tt = [] by rw [← HTT.out, htb]; rfl, show nn = 0 by rw [← HNN.out, hnb]; rfl], (HN2.out.2.2.2).trans z3⟩
          obtain ⟨a0, a1, a2, a3⟩ := heap4P z1
          simp [results, Tryz.f73, go_sem, a0, a1, a2, a3]
          try rfl
        · have tk : T wk := T.below HN2.out.2.2.2
          obtain ⟨zz, hzz⟩ : ∃ zz, atoiV v = zz := ⟨_, rfl⟩
          have hz := HZ.out hnb
          rw [hzz] at hz
          show _
          have HAT := Lib.hid (fun (W : World) [T W] => (atoi_any v hl W).mono (R' := fun e w' => e = .returned (.tuple #[intV zz, .nilIface]) ∧ Below W.heap.size W w') (fun e w' h => by
            rcases h with ⟨m, hm, he, hb⟩ | ⟨m, t, p, hno, _⟩
            · rw [hz] at hm; cases hm; exact ⟨he, hb⟩
            · exact absurd hz (hno zz)))
          clear hz
          go_wp2_with (first | (go_at_call 78; refine (texts_any kk _ htb _).mono ?_; rintro e5 w5 ⟨rfl, hw5⟩; rw [hw5]; clear hw5 w5) | (go_at_call 79; refine (numbers_any kk _ hnb _).mono ?_; rintro e5 w5 ⟨rfl, hw5⟩; rw [hw5]; clear hw5 w5))
          refine (HAT.out _).mono ?_
          rintro e7 w7 ⟨rfl, h7⟩
          have HN7 := Lib.hid (HN2.out.below h7)
          clear h7 p0 p1 p2 p3 q0 q1 q2 q3 r0 r1 r2 r3 f0 f1 f2 f3 g1 g2
          have hb2 := HN7.out.2.1
          have hb3 := HN7.out.2.2.1
          obtain ⟨q0, q1, q2, q3⟩ := box4T hb2
          obtain ⟨r0, r1, r2, r3⟩ := box4T hb3
          have f0 := heap_free hb2 0
          have f1 := heap_free hb2 1
          have f2 := heap_free hb2 2
          have f3 := heap_free hb2 3
          have g2 := heap_free hb3 2
          clear hb2 hb3
          go_wp2
          obtain ⟨z1, z2, z3⟩ := set4P (N := w.heap.size) (w1 := w7.setCell ⟨w.heap.size + 1 + 1, 2, none⟩ (intV zz)) (b := w.heap.size + 1) (x0 := intV kk) (x1 := .string ⟨#[]⟩) (x2 := intV zz) (x3 := .slice none 0 0) ((Below.heap_setCell _ _ _ _ n1).trans HN7.out.2.1) (by omega) rfl
          refine bodyPost_ret (v := .agg #[intV kk, sV [], intV zz, .slice none 0 0]) ?_ rfl ⟨by rw [show tt = [] by rw [← HTT.out, htb]; rfl, show nn = zz by rw [← HNN.out, hnb]; exact hzz], (HN7.out.2.2.2.setCell (p := ⟨w.heap.size + 1 + 1, 2, none⟩) (by show w.heap.size ≤ w.heap.size + 1 + 1; omega) _).trans z3⟩
          obtain ⟨a0, a1, a2, a3⟩ := heap4P z1
          simp [results, Tryz.f73, go_sem, a0, a1, a2, a3]
          try rfl
      · have hnb : numsK kk = false := by
          unfold textsK at htb
          unfold numsK
          simp at htb ⊢
          omega
        go_wp2_with (first | (go_at_call 78; refine (texts_any kk _ htb _).mono ?_; rintro e5 w5 ⟨rfl, hw5⟩; rw [hw5]; clear hw5 w5) | (go_at_call 79; refine (numbers_any kk _ hnb _).mono ?_; rintro e5 w5 ⟨rfl, hw5⟩; rw [hw5]; clear hw5 w5))
        obtain ⟨z1, z2, z3⟩ := set4P (N := w.heap.size) (w1 := wk.setCell ⟨w.heap.size + 1 + 1, 1, none⟩ (sV v)) (b := w.heap.size + 1) (x0 := intV kk) (x1 := sV v) (x2 := .int .i64 0) (x3 := .slice none 0 0) ((Below.heap_setCell _ _ _ _ n1).trans HN2.out.2.1) (by omega) rfl
        refine bodyPost_ret (v := .agg #[intV kk, sV v, intV 0, .slice none 0 0]) ?_ rfl ⟨by rw [show tt = v by rw [← HTT.out, htb]; rfl, show nn = 0 by rw [← HNN.out, hnb]; rfl], (HN2.out.2.2.2.setCell (p := ⟨w.heap.size + 1 + 1, 1, none⟩) (by show w.heap.size ≤ w.heap.size + 1 + 1; omega) _).trans z3⟩
        obtain ⟨a0, a1, a2, a3⟩ := heap4P z1
        simp [results, Tryz.f73, go_sem, a0, a1, a2, a3]
        try rfl
end Go.Proofs.YtmfcepfagbkceaaGreatDoor
namespace Go.Proofs.YtmfcepfagbkceaaGreatDoor
set_option linter.unusedSimpArgs false
set_option linter.unusedVariables false
set_option maxRecDepth 100000
open Go.RowKit Go.Shelf Go.Deep
theorem refNode_any (x : Lx) (ok : okT x) (h3 : x.k ≠ 3) (hv : x.v.length ≤ 65536) (w : World) [T w] :
    Calls Tryz.prog 73 #[.agg #[intV x.k, sV x.n, sV x.v, intV x.o]] w fun e w' => e = .returned (.agg #[intV (hdX x).1, sV (hdX x).2.1, intV (hdX x).2.2, .slice none 0 0]) ∧ Below w.heap.size w w' := by
  rcases ok with ⟨h1, h2⟩ | h
  · obtain ⟨k, n, v, o⟩ := x
    obtain rfl : k = 1 := h1
    exact refNode_text n v o w
  · have hk : x.k = 2 ∨ x.k = 4 := by
      unfold goodT at h
      simp only [Bool.or_eq_true, Bool.and_eq_true, decide_eq_true_eq] at h
      rcases h with (h | h) | h
      · exact .inl h.1
      · exact absurd h.1 h3
      · exact .inr h.1
    obtain ⟨k, n, v, o⟩ := x
    have hk : k = 2 ∨ k = 4 := hk
    have hx : goodT k n v = true := h
    have hne : ¬ k = 1 := by omega
    have htag := good_isTag hx
    have hval : valX (kOf n) (if textsK (kOf n) then v else []) (if numsK (kOf n) then atoiV v else 0) = v := by
      rcases hk with rfl | rfl
      · exact (good_open hx).2.2.2
      · exact (good_empty hx).2.2.2
    have := refNode_tag k (by rw [beq_eq_false_iff_ne]; omega) n v o htag (fun hnum => by
      have ht : textsK (kOf n) = false := by
        unfold numsK at hnum
        unfold textsK
        simp at hnum ⊢
        omega
      rw [ht, hnum] at hval
      unfold valX at hval
      rw [ht, hnum] at hval
      exact atoi_rng v hval (atoiV_rng v)) (by have : v.length ≤ 65536 := hv; omega) w
    unfold hdX nodeX
    rw [if_neg (show ¬ (Lx.k ⟨k, n, v, o⟩) = 1 from hne)]
    exact this
theorem readF_suf : ∀ (f : Nat) (L : List Lx), (readF f L).2 <:+ L
  | 0, L => by rw [readF]; exact List.suffix_refl _
  | _ + 1, [] => by rw [readF]; exact List.suffix_refl _
  | f + 1, x :: L => by
    rw [readF]
    split
    · exact List.suffix_refl _
    · split
      · have h1 := readF_suf f L
        have h2 := readF_suf f ((readF f L).2.drop 1)
        exact (h2.trans ((List.drop_suffix _ _).trans h1)).trans (List.suffix_cons _ _)
      · exact (readF_suf f L).trans (List.suffix_cons _ _)
theorem rd_drop {L : List Lx} {i : Nat} {R : List Lx} (h : (rd (L.drop i)).2 = R) : L.drop (L.length - R.length) = R := by
  have h1 : R <:+ L := by rw [← h]; exact (readF_suf _ _).trans (List.drop_suffix _ _)
  exact (List.suffix_iff_eq_drop.1 h1).symm
structure LsI (w : World) (L : List Lx) (i k : Nat) (st : List Bs) (out : List Nd) (cs : List Value) (ov : Value) (wr : World) : Prop where
  ik : i ≤ k
  rs : runS st (L.drop k) = (0, [])
  rdd : rd (L.drop i) = (out ++ (rd (L.drop k)).1, (rd (L.drop k)).2)
  own : wr.ownsRow w.heap.size nT 4 ov out.length cs
  cs : CsOf wr (fun b => w.heap.size ≤ b ∧ ov.ownBlock ≠ some b) cs out
  len : out.length ≤ k
  be : Below w.heap.size w wr
def ListPost (L : List Lx) (i : Nat) (w : World) (e : Ending) (w' : World) : Prop :=
  ∃ u, e = .returned (.tuple #[u, intV (L.length - (rd (L.drop i)).2.length : Nat)]) ∧ VsAt w' (fun b => w.heap.size ≤ b) u (rd (L.drop i)).1 ∧ Below w.heap.size w w'
set_option maxHeartbeats 8000000 in
theorem list10_any (L : List Lx) (hl : L.length ≤ 1000) (hvl : ∀ x ∈ L, x.v.length ≤ 65536) (hok : ∀ x ∈ L, okT x) : ∀ (N : Nat) (i : Nat), L.length - i ≤ N → i ≤ L.length → ∀ (st : List Bs), runS st (L.drop i) = (0, []) → ∀ (v : Value) (w : World) [T w], LexAt w v L →
    Calls Tryz.prog 43 #[v, intV i] w (ListPost L i w) := by
  intro N
  induction N using Nat.strongRecOn with
  | _ N ih =>
    intro i hN hiL st hr v w tw hv
    have HV := Lib.hid hv
    obtain ⟨a, c, rfl⟩ := hv.slice
    have HR := Lib.hid hr
    have HVL := Lib.hid hvl
    have HOK := Lib.hid hok
    have IH := Lib.hid ih
    obtain ⟨i0, hi, hz0, hz1, hz2⟩ := info_parts info_nd
    clear hv hr hvl hok ih
    go_enter Tryz.func43, Tryz.ntmps43
    go_wp2
    go_loopw [1, 6] (fun kv ov wr => ∃ (k : Nat) (out : List Nd) (cs : List Value), k ≤ L.length ∧ kv = .int .i64 k ∧ Hid (LsI w L i k st out cs ov wr)) (fun kv _ _ => L.length - (intOf kv).toNat)
    case atStart => exact ⟨i, [], [], hiL, rfl, Lib.hid ⟨Nat.le_refl _, HR.out, rfl, ⟨rfl, .inr ⟨_, _, #[], rfl, Nat.le_refl _, World.alloc_heap_new _ _, Nat.le_refl _, Nat.zero_le _, rfl, rfl⟩⟩, by rw [CsOf], Nat.zero_le _, below_alloc _ _⟩⟩
    case round =>
      obtain ⟨k, out, cs, hk, rfl, HI⟩ := hrel
      obtain ⟨wk, rfl⟩ : ∃ x, x = wr := ⟨_, rfl⟩
      obtain ⟨oa, oc, rfl⟩ : ∃ oa oc, u6 = .slice oa out.length oc := by
        rcases HI.out.own.2 with ⟨h, h0⟩ | ⟨g, cap, cur, h, _⟩
        · exact ⟨none, 0, by rw [h, h0]⟩
        · exact ⟨_, _, h⟩
      have hol := HI.out.len
      by_cases hlt : k < L.length
      · obtain ⟨x, hx⟩ : ∃ x, L[k] = x := ⟨_, rfl⟩
        obtain ⟨bb, off, rfl, d1, d2, d3, d4⟩ := lexAt_cells HV.out hlt HI.out.be hx
        have hxm : x ∈ L := by rw [← hx]; exact List.getElem_mem hlt
        have hdr : L.drop k = x :: L.drop (k + 1) := by rw [List.drop_eq_getElem_cons hlt, hx]
        have i0' : (0 : Int) ≤ (k : Int) := by omega
        have i1 : (k : Int) < (L.length : Int) := by omega
        have i1' : decide ((k : Int) < (L.length : Int)) = true := decide_eq_true i1
        by_cases h3 : x.k = 3
        · have q3 : (x.k != 3) = false := by simp [h3]
          have HZ := Lib.hid (show VsAt wk (fun b => w.heap.size ≤ b) (.slice oa out.length oc) (rd (L.drop i)).1 by
            rw [HI.out.rdd, hdr, rd_close h3, List.append_nil]
            exact vs_of_own HI.out.own (HI.out.cs.mono fun b _ hp => hp.1) (fun g hg => (HI.out.own.lt g hg).1))
          have HL := Lib.hid (show L.length - (rd (L.drop i)).2.length = k by
            rw [HI.out.rdd, hdr, rd_close h3]
            rw [← hdr, List.length_drop]
            omega)
          have HB := Lib.hid HI.out.be
          clear h3 hx hxm hdr
          go_wp2
          exact bodyPost_ret (v := .tuple #[.slice oa out.length oc, intV k]) (by simp [results, Tryz.f43, go_sem]) rfl ⟨.slice oa out.length oc, by rw [HL.out], HZ.out, HB.out⟩
        · have q3 : (x.k != 3) = true := by simpa using h3
          have hxo := HOK.out x hxm
          have hxv := HVL.out x hxm
          haveI tk : T wk := T.below HI.out.be
          have HC := Lib.hid (refNode_any x hxo h3 hxv wk)
          have hrs := HI.out.rs
          rw [hdr, runS_cons] at hrs
          have hws := HI.out.be.size
          by_cases h2 : x.k = 2
          · have q2 : (x.k == 2) = true := by simp [h2]
            rw [if_pos h2] at hrs
            have hrs2 : runS (x.n :: st) (L.drop (k + 1)) = (0, []) := by
              split at hrs
              · cases hrs
              · exact hrs
            obtain ⟨_, a2, a3, _, a5⟩ := lex_read (L.drop (k + 1)).length (L.drop (k + 1)) (x.n :: st) (Nat.le_refl _) (fun z hz => HOK.out z (List.mem_of_mem_drop hz)) hrs2
            obtain ⟨yc, M, e1, e2, e3, e4⟩ := a5 _ _ rfl
            obtain ⟨inn, hinn⟩ : ∃ inn, (rd (L.drop (k + 1))).1 = inn := ⟨_, rfl⟩
            obtain ⟨k', hk'⟩ : ∃ k', L.length - (rd (L.drop (k + 1))).2.length = k' := ⟨_, rfl⟩
            have hdk : L.drop k' = yc :: M := by rw [← hk', ← e1]; exact rd_drop rfl
            have hdk1 : L.drop (k' + 1) = M := by rw [← List.drop_drop, hdk]; rfl
            have hkl : k' < L.length := by
              apply Classical.byContradiction
              intro h
              rw [List.drop_of_length_le (by omega)] at hdk
              cases hdk
            have hkk : k < k' := by
              rw [List.length_drop] at a3
              omega
            have hit : inn.length ≤ 65536 := by
              have h1 := readF_tot (L.drop (k + 1)).length (L.drop (k + 1))
              have h2 : tots inn ≤ (L.drop (k + 1)).length := by
                have : tots (rd (L.drop (k + 1))).1 + (rd (L.drop (k + 1))).2.length ≤ (L.drop (k + 1)).length := h1
                rw [hinn] at this
                omega
              rw [List.length_drop] at h2
              have := len_tots inn
              omega
            obtain ⟨y, hy⟩ : ∃ y, nodeX x inn = y := ⟨_, rfl⟩
            have hyh : y = mkH (hdX x) inn := by rw [← hy]; exact node_mkH x inn
            have hst2 : rd (L.drop k) = (y :: (rd (L.drop (k' + 1))).1, (rd (L.drop (k' + 1))).2) := by
              rw [hdr, rd_open h2, hinn, hy, e1, List.drop_one, List.tail_cons, hdk1]
            have HSTn := Lib.hid (show runS st (L.drop (k' + 1)) = (0, []) ∧ rd (L.drop k) = (y :: (rd (L.drop (k' + 1))).1, (rd (L.drop (k' + 1))).2) from ⟨by rw [hdk1]; exact e4, hst2⟩)
            have HCL := Lib.hid (fun (W : World) (_ : T W) (hW : LexAt W (.slice (some ⟨bb, off, none⟩) L.length c) L) => IH.out (L.length - (k + 1)) (by have := HI.out.ik; omega) (k + 1) (Nat.le_refl _) (by omega) (x.n :: st) hrs2 _ W hW)
            have HY := Lib.hid (And.intro hyh (And.intro hinn (And.intro hk' (And.intro hit hxv))))
            have wk1 : IntKind.i64.wrap ((k : Int) + 1) = ((k + 1 : Nat) : Int) := by rw [show (k : Int) + 1 = ((k + 1 : Nat) : Int) by omega]; exact IntWalk.i64_in _ (by omega)
            clear h2 h3 hx hxm hdr hrs hrs2 a2 a3 a5 e1 e2 e3 e4 hdk hdk1 hst2 hyh hinn hk' hit hxo hxv hy
            go_wp2_with fail
            refine HC.out.mono ?_
            rintro e w2 ⟨rfl, h2⟩
            have hyk : (hdX x).1 = y.kd ∧ (hdX x).2.1 = y.tx ∧ (hdX x).2.2 = y.nm := by rw [HY.out.1]; exact ⟨rfl, rfl, rfl⟩
            rw [hyk.1, hyk.2.1, hyk.2.2]
            obtain ⟨w3, hw3⟩ : ∃ X, w2.alloc (.cells #[intV y.kd, sV y.tx, intV y.nm, .slice none 0 0] nT (0, 0)) = X := ⟨_, rfl⟩
            have k3 : w3.heap[w2.heap.size]? = some (.cells #[intV y.kd, sV y.tx, intV y.nm, .slice none 0 0] nT (0, 0)) := by rw [← hw3]; exact World.alloc_heap_new _ _
            have h3 : Below wk.heap.size wk w3 := by rw [← hw3]; exact below_then h2 (below_alloc _ _)
            have s3 : w3.heap.size = w2.heap.size + 1 := by rw [← hw3]; simp
            have hs2 := h2.size
            have g1 := (h3.cell (p := ⟨bb, off + k * 4, none⟩) (cellT_lt d1)).trans d1
            obtain ⟨e0, e1, e2, e3⟩ := box4T k3
            have HW3 := Lib.hid hw3
            have HK3 := Lib.hid k3
            have H3 := Lib.hid h3
            clear h2 hw3 k3 h3 d1 d2 d3 d4
            go_upto_region 4 with fail
            rw [HW3.out]
            haveI t3 : T w3 := T.below (HI.out.be.trans (H3.out.mono hws))
            have HL3 := Lib.hid (HCL.out w3 t3 (HV.out.below (HI.out.be.trans (H3.out.mono hws))))
            clear HCL
            go_wp2_with fail
            refine HL3.out.mono ?_
            rintro e w5 ⟨u, rfl, hu, h5⟩
            have k5 := (h5.block _ (show w2.heap.size < w3.heap.size by omega)).trans HK3.out
            clear e0 e1 e2 e3 g1
            obtain ⟨e0, e1, e2, e3⟩ := box4T k5
            have f3 := heap_free k5 3
            obtain ⟨hyh, hinn, hkx, hit, hxv⟩ := HY.out
            rw [hkx]
            rw [hinn] at hu
            obtain ⟨ua, uc, rfl, hui⟩ := id hu
            clear hui
            obtain ⟨w6, hw6⟩ : ∃ X, w5.setCell ⟨w2.heap.size, 3, none⟩ (.slice ua inn.length uc) = X := ⟨_, rfl⟩
            have hk6 : ∀ b, b ≠ w2.heap.size → w6.heap[b]? = w5.heap[b]? := fun b hb => by rw [← hw6]; exact Below.heap_setCell _ _ _ _ hb
            have s6 : w6.heap.size = w5.heap.size := by rw [← hw6]; simp [World.setCell]
            have hs5 := h5.size
            have hov : ∀ b, (Value.slice oa out.length oc).ownBlock = some b → b < wk.heap.size := fun b hb => (HI.out.own.lt b hb).2
            have hyv : VAt w6 (fun b => w.heap.size ≤ b ∧ (Value.slice oa out.length oc).ownBlock ≠ some b) (.agg #[intV y.kd, sV y.tx, intV y.nm, .slice ua inn.length uc]) y := by
              have hu2 : VsAt w6 (fun b => w.heap.size ≤ b ∧ (Value.slice oa out.length oc).ownBlock ≠ some b) (.slice ua inn.length uc) inn :=
                (hu.keep (W' := w6) (fun b hb hlt => hk6 b (by omega)) (by omega)).mono (fun b _ hp => ⟨by omega, fun e => by have := hov b e; omega⟩)
              have := vat_hd (h := hdX x) (hdX_B x hxv) hit hu2
              rw [← hyh, hyk.1, hyk.2.1, hyk.2.2] at this
              exact this
            have keep6 : ∀ b, b < wk.heap.size → w6.heap[b]? = wk.heap[b]? := fun b hb => (hk6 b (by omega)).trans ((h5.block b (by omega)).trans (H3.out.block b hb))
            have hB6 : Below w.heap.size w w6 := by rw [← hw6]; exact ((HI.out.be.trans (H3.out.mono hws)).trans (h5.mono (by omega))).setCell (p := ⟨w2.heap.size, 3, none⟩) (by show w.heap.size ≤ w2.heap.size; omega) _
            have k6 : w6.heap[w2.heap.size]? = some (.cells #[intV y.kd, sV y.tx, intV y.nm, .slice ua inn.length uc] nT (0, 0)) := by rw [← hw6]; exact set_step 3 _ k5
            have HW6 := Lib.hid hw6
            have HK6 := Lib.hid k6
            clear hyh hinn hkx hit hxv hu h5 k5 hk6 hov k6 hw6 hyk
            go_upto_region 8 with fail
            rw [HW6.out]
            clear e0 e1 e2 e3 f3
            obtain ⟨e0, e1, e2, e3⟩ := box4T HK6.out
            have q6 : w.heap.size ≤ w6.heap.size ∧ wk.heap.size ≤ w6.heap.size ∧ w2.heap.size < w6.heap.size := by omega
            obtain ⟨w7, hw7⟩ : ∃ X, w6.alloc (.cells #[intV y.kd, sV y.tx, intV y.nm, .slice ua inn.length uc] nT (0, 0)) = X := ⟨_, rfl⟩
            have k7 : w7.heap[w6.heap.size]? = some (.cells #[intV y.kd, sV y.tx, intV y.nm, .slice ua inn.length uc] nT (0, 0)) := by rw [← hw7]; exact World.alloc_heap_new _ _
            have b7 : Below w6.heap.size w6 w7 := by rw [← hw7]; exact below_alloc _ _
            have HSn := Lib.hid (show w7.heap.size = w6.heap.size + 1 by rw [← hw7]; simp)
            have HNWn := Lib.hid (World.news_of_block k7)
            have keep7 : ∀ b, b < wk.heap.size → w7.heap[b]? = wk.heap[b]? := fun b hb => (b7.block b (by omega)).trans (keep6 b hb)
            have HOWn := Lib.hid (own_keepT HI.out.own fun g hg => keep7 g (HI.out.own.lt g hg).2)
            have HCSn := Lib.hid (HI.out.cs.keep (fun b _ hlt => keep7 b hlt) (show wk.heap.size ≤ w7.heap.size by have := HSn.out; omega))
            have HYn := Lib.hid (hyv.below b7)
            have HBn := Lib.hid (hB6.trans (b7.mono (by omega)))
            have HWn := Lib.hid hw7
            have q7 : w.heap.size ≤ w7.heap.size := by have := HSn.out; omega
            clear hw7 k7 b7 keep7 hyv keep6 hB6 s6 s3
            go_wp2_with (at_builtin; rw [HWn.out]; go_loud (refine wpList_append_lies _ (by rfl) _ _ lT (by rfl) w.heap.size nT i0 (.agg z4.toArray) 4 56 Tryz.underlying24 hi hz0 hz1 hz2 (by rfl) (by decide) _ out.length cs (by rfl) HOWn.out ⟨w6.heap.size, 0, none⟩ 1 1 [intV y.kd, sV y.tx, intV y.nm, .slice ua inn.length uc] (by rfl) (by rfl) HNWn.out (by intro u hu; simp only [List.mem_cons, List.mem_nil_iff, or_false] at hu; rcases hu with rfl | rfl | rfl | rfl <;> rfl) (by decide) (by unfold maxLen; omega) (by omega) (by omega) (w6.heap.size + 1) HSn.out ?_))
            intro g cp w9 hown hgrow hat hlt9
            have hb9 : Below w.heap.size w w9 := (HBn.out.grown hgrow (by have := HSn.out; omega) (fun k hk => (HOWn.out.lt k hk).1))
            have hcs9 := row_push (n := out.length) (cap := cp) HCSn.out HYn.out hgrow (by rcases hat with h | h; exact .inl h; exact .inr (by rw [HSn.out]; omega))
            have HF := Lib.hid (show LsI w L i (k' + 1) st (out ++ [y]) (cs ++ [intV y.kd, sV y.tx, intV y.nm, .slice ua inn.length uc]) (.slice (some ⟨g, 0, none⟩) (out.length + 1) cp) w9 from
              ⟨by have := HI.out.ik; omega, HSTn.out.1, by rw [HI.out.rdd, HSTn.out.2, List.append_assoc]; rfl, by rw [List.length_append]; exact hown, hcs9, by rw [List.length_append]; have := HI.out.len; simp; omega, hb9⟩)
            clear hown hgrow hat hlt9 hb9 hcs9
            have wj : IntKind.i64.wrap ((k' : Int) + 1) = (((k' + 1) : Nat) : Int) := by rw [show (k' : Int) + 1 = (((k' + 1) : Nat) : Int) by omega]; exact IntWalk.i64_in _ (by omega)
            go_wp2
            refine ⟨⟨(k' + 1), out ++ [y], _, by omega, ?_, by first | (rw [List.length_append] at HF; exact HF) | exact HF⟩, ?_⟩
            · first | rfl | (rw [show (((k' + 1) : Nat) : Int) = (k' : Int) + 1 by omega])
            · simp [intOf]; omega
          · have q2 : (x.k == 2) = false := by simpa using h2
            rw [if_neg h2, if_neg h3] at hrs
            obtain ⟨y, hy⟩ : ∃ y, nodeX x [] = y := ⟨_, rfl⟩
            have hyh : y = mkH (hdX x) [] := by rw [← hy]; exact node_mkH x []
            have HSTn := Lib.hid (show runS st (L.drop (k + 1)) = (0, []) ∧ rd (L.drop k) = (y :: (rd (L.drop (k + 1))).1, (rd (L.drop (k + 1))).2) from ⟨hrs, by rw [hdr, rd_other h3 h2, hy]⟩)
            have HY := Lib.hid (And.intro hyh hxv)
            clear h2 h3 hx hxm hdr hrs hyh hxo hxv hy
            go_wp2_with fail
            refine HC.out.mono ?_
            rintro e w2 ⟨rfl, h2⟩
            have hyk : (hdX x).1 = y.kd ∧ (hdX x).2.1 = y.tx ∧ (hdX x).2.2 = y.nm := by rw [HY.out.1]; exact ⟨rfl, rfl, rfl⟩
            rw [hyk.1, hyk.2.1, hyk.2.2]
            obtain ⟨w3, hw3⟩ : ∃ X, w2.alloc (.cells #[intV y.kd, sV y.tx, intV y.nm, .slice none 0 0] nT (0, 0)) = X := ⟨_, rfl⟩
            have k3 : w3.heap[w2.heap.size]? = some (.cells #[intV y.kd, sV y.tx, intV y.nm, .slice none 0 0] nT (0, 0)) := by rw [← hw3]; exact World.alloc_heap_new _ _
            have h3 : Below wk.heap.size wk w3 := by rw [← hw3]; exact below_then h2 (below_alloc _ _)
            have s3 : w3.heap.size = w2.heap.size + 1 := by rw [← hw3]; simp
            have hs2 := h2.size
            have g1 := (h3.cell (p := ⟨bb, off + k * 4, none⟩) (cellT_lt d1)).trans d1
            obtain ⟨e0, e1, e2, e3⟩ := box4T k3
            have HW3 := Lib.hid hw3
            have HK3 := Lib.hid k3
            have H3 := Lib.hid h3
            clear h2 hw3 k3 h3 d1 d2 d3 d4
            go_upto_region 4 with fail
            rw [HW3.out]
            obtain ⟨w6, hw6⟩ : ∃ X, X = w3 := ⟨_, rfl⟩
            rw [← hw6] at e0 e1 e2 e3 g1
            rw [← hw6]
            have hyv : VAt w6 (fun b => w.heap.size ≤ b ∧ (Value.slice oa out.length oc).ownBlock ≠ some b) (.agg #[intV y.kd, sV y.tx, intV y.nm, .slice none 0 0]) y := by
              have := vat_hd (W := w6) (P := fun b => w.heap.size ≤ b ∧ (Value.slice oa out.length oc).ownBlock ≠ some b) (h := hdX x) (l := []) (s := .slice none 0 0) (hdX_B x HY.out.2) (by simp) (VsAt.nil _ _ _ _)
              rw [← HY.out.1, hyk.1, hyk.2.1, hyk.2.2] at this
              exact this
            have keep6 : ∀ b, b < wk.heap.size → w6.heap[b]? = wk.heap[b]? := fun b hb => by rw [hw6]; exact H3.out.block b hb
            have hB6 : Below w.heap.size w w6 := by rw [hw6]; exact HI.out.be.trans (H3.out.mono hws)
            have s6 : w6.heap.size = w2.heap.size + 1 := by rw [hw6]; exact s3
            clear hw6 hyk
            have q6 : w.heap.size ≤ w6.heap.size ∧ wk.heap.size ≤ w6.heap.size ∧ w2.heap.size < w6.heap.size := by omega
            obtain ⟨w7, hw7⟩ : ∃ X, w6.alloc (.cells #[intV y.kd, sV y.tx, intV y.nm, .slice none 0 0] nT (0, 0)) = X := ⟨_, rfl⟩
            have k7 : w7.heap[w6.heap.size]? = some (.cells #[intV y.kd, sV y.tx, intV y.nm, .slice none 0 0] nT (0, 0)) := by rw [← hw7]; exact World.alloc_heap_new _ _
            have b7 : Below w6.heap.size w6 w7 := by rw [← hw7]; exact below_alloc _ _
            have HSn := Lib.hid (show w7.heap.size = w6.heap.size + 1 by rw [← hw7]; simp)
            have HNWn := Lib.hid (World.news_of_block k7)
            have keep7 : ∀ b, b < wk.heap.size → w7.heap[b]? = wk.heap[b]? := fun b hb => (b7.block b (by omega)).trans (keep6 b hb)
            have HOWn := Lib.hid (own_keepT HI.out.own fun g hg => keep7 g (HI.out.own.lt g hg).2)
            have HCSn := Lib.hid (HI.out.cs.keep (fun b _ hlt => keep7 b hlt) (show wk.heap.size ≤ w7.heap.size by have := HSn.out; omega))
            have HYn := Lib.hid (hyv.below b7)
            have HBn := Lib.hid (hB6.trans (b7.mono (by omega)))
            have HWn := Lib.hid hw7
            have q7 : w.heap.size ≤ w7.heap.size := by have := HSn.out; omega
            clear hw7 k7 b7 keep7 hyv keep6 hB6 s6 s3
            go_wp2_with (at_builtin; rw [HWn.out]; go_loud (refine wpList_append_lies _ (by rfl) _ _ lT (by rfl) w.heap.size nT i0 (.agg z4.toArray) 4 56 Tryz.underlying24 hi hz0 hz1 hz2 (by rfl) (by decide) _ out.length cs (by rfl) HOWn.out ⟨w6.heap.size, 0, none⟩ 1 1 [intV y.kd, sV y.tx, intV y.nm, .slice none 0 0] (by rfl) (by rfl) HNWn.out (by intro u hu; simp only [List.mem_cons, List.mem_nil_iff, or_false] at hu; rcases hu with rfl | rfl | rfl | rfl <;> rfl) (by decide) (by unfold maxLen; omega) (by omega) (by omega) (w6.heap.size + 1) HSn.out ?_))
            intro g cp w9 hown hgrow hat hlt9
            have hb9 : Below w.heap.size w w9 := (HBn.out.grown hgrow (by have := HSn.out; omega) (fun k hk => (HOWn.out.lt k hk).1))
            have hcs9 := row_push (n := out.length) (cap := cp) HCSn.out HYn.out hgrow (by rcases hat with h | h; exact .inl h; exact .inr (by rw [HSn.out]; omega))
            have HF := Lib.hid (show LsI w L i (k + 1) st (out ++ [y]) (cs ++ [intV y.kd, sV y.tx, intV y.nm, .slice none 0 0]) (.slice (some ⟨g, 0, none⟩) (out.length + 1) cp) w9 from
              ⟨by have := HI.out.ik; omega, HSTn.out.1, by rw [HI.out.rdd, HSTn.out.2, List.append_assoc]; rfl, by rw [List.length_append]; exact hown, hcs9, by rw [List.length_append]; have := HI.out.len; simp; omega, hb9⟩)
            clear hown hgrow hat hlt9 hb9 hcs9
            have wj : IntKind.i64.wrap ((k : Int) + 1) = (((k + 1) : Nat) : Int) := by rw [show (k : Int) + 1 = (((k + 1) : Nat) : Int) by omega]; exact IntWalk.i64_in _ (by omega)
            go_wp2
            refine ⟨⟨(k + 1), out ++ [y], _, by omega, ?_, by first | (rw [List.length_append] at HF; exact HF) | exact HF⟩, ?_⟩
            · first | rfl | (rw [show (((k + 1) : Nat) : Int) = (k : Int) + 1 by omega])
            · simp [intOf]; omega
      · obtain rfl : k = L.length := by omega
        have hdr : L.drop L.length = [] := List.drop_length
        have i1' : decide ((L.length : Int) < (L.length : Int)) = false := decide_eq_false (by omega)
        have HZ := Lib.hid (show VsAt wk (fun b => w.heap.size ≤ b) (.slice oa out.length oc) (rd (L.drop i)).1 by
          rw [HI.out.rdd, hdr, rd_nil, List.append_nil]
          exact vs_of_own HI.out.own (HI.out.cs.mono fun b _ hp => hp.1) (fun g hg => (HI.out.own.lt g hg).1))
        have HL := Lib.hid (show L.length - (rd (L.drop i)).2.length = L.length by
          rw [HI.out.rdd, hdr, rd_nil]
          simp)
        have HB := Lib.hid HI.out.be
        clear hdr
        go_wp2
        exact bodyPost_ret (v := .tuple #[.slice oa out.length oc, intV L.length]) (by simp [results, Tryz.f43, go_sem]) rfl ⟨.slice oa out.length oc, by rw [HL.out], HZ.out, HB.out⟩
end Go.Proofs.YtmfcepfagbkceaaGreatDoor
namespace Go.Proofs.YtmfcepfagbkceaaGreatDoor
set_option linter.unusedSimpArgs false
set_option linter.unusedVariables false
set_option maxRecDepth 100000
open Go.RowKit Go.Shelf Go.Deep
set_option maxHeartbeats 4000000 in
theorem refParse_at {s : Bs} {l : List Nd} {e : Int} (hr : parseR s = (l, e)) (hl : (scanR s).2 = 0 → (scanR s).1.length ≤ 1000) (hs : s.length ≤ maxLen) (w : World) [T w] :
    Calls Tryz.prog 13 #[sV s] w fun en w' => ∃ u, en = .returned (.tuple #[u, intV e]) ∧ (∃ P, VsAt w' P u l) ∧ Below w.heap.size w w' := by
  obtain ⟨A, hA⟩ : ∃ A, scanR s = A := ⟨_, rfl⟩
  obtain ⟨A, k⟩ := A
  have HS := Lib.hid (refScan_any s A k w hA hs)
  by_cases h0 : k = 0
  · subst h0
    rw [hA] at hl
    obtain ⟨hb, hal, hok, hv⟩ := scanT_b hA (hl rfl)
    by_cases h1 : nestR A = 0
    · have hrun := nest_run h1
      have ht := readF_tot A.length A
      obtain ⟨N, hN⟩ : ∃ N, (rd A).1 = N := ⟨_, rfl⟩
      have ht : tots N ≤ 1000 := by have h := hb.1; have : tots (rd A).1 + (rd A).2.length ≤ A.length := ht; rw [hN] at this; omega
      obtain ⟨k, hk⟩ : ∃ k, ckR N = k := ⟨_, rfl⟩
      have hr2 : parseR s = if k ≠ 0 then ([], k) else (N, 0) := by
        unfold parseR
        rw [hA]
        show (if (0 : Int) ≠ 0 then _ else if nestR A ≠ 0 then _ else if ckR (rd A).1 ≠ 0 then _ else _) = _
        rw [if_neg (by simp), if_neg (by simpa using h1), hN, hk]
      have HNE := Lib.hid (fun v W (h : LexAt W v A) => refNested_any refChk_any A 0 v W h1 h hb)
      have HTR := Lib.hid (fun v W (_ : T W) (h : LexAt W v A) => list10_any A hb.1 hv hok A.length 0 (Nat.sub_le _ _) (Nat.zero_le _) [] hrun v W h)
      have HCK := Lib.hid (fun v P W (h : VsAt W P v N) => check10_any N k hk v P W h)
      have HRR := Lib.hid (hr.symm.trans hr2)
      have HN := Lib.hid (show (rd (A.drop 0)).1 = N from hN)
      clear hr hb hal hok hv hrun ht hN hk hr2 h1 hA hl hs
      go_enter Tryz.func13, Tryz.ntmps13
      go_wp2_with fail
      refine HS.out.mono ?_
      rintro e' w1 ⟨v, rfl, hv, b1⟩
      haveI t1 : T w1 := T.below b1
      have HN1 := Lib.hid (HNE.out v w1 hv)
      have HV := Lib.hid hv
      have HB1 := Lib.hid b1
      clear hv b1 HNE
      go_wp2_with fail
      refine HN1.out.mono ?_
      rintro e' w2 ⟨rfl, b2⟩
      have HB2 := Lib.hid (below_then HB1.out b2)
      haveI t2 : T w2 := T.below HB2.out
      have HT2 := Lib.hid (HTR.out v w2 t2 (HV.out.below b2))
      clear b2 HTR HN1 HV HB1
      go_wp2_with fail
      refine HT2.out.mono ?_
      rintro e' w3 ⟨u, rfl, hu, b3⟩
      rw [HN.out] at hu
      have HB3 := Lib.hid (below_then HB2.out b3)
      have HC3 := Lib.hid (HCK.out u _ w3 hu)
      have HU := Lib.hid hu
      clear hu b3 HCK HT2 HB2
      obtain ⟨nl, hnl⟩ : ∃ n, A.length - (rd (A.drop 0)).2.length = n := ⟨_, rfl⟩
      rw [hnl]
      clear hnl
      go_wp2_with fail
      refine HC3.out.mono ?_
      rintro e' w4 ⟨rfl, b4⟩
      have HB4 := Lib.hid (below_then HB3.out b4)
      have HU4 := Lib.hid (HU.out.below b4)
      clear b4 HC3 HU HB3
      by_cases hk : k = 0
      · have q : (k != 0) = false := by simp [hk]
        have HK := Lib.hid (show l = N ∧ e = 0 by have := HRR.out; rw [if_neg (by simpa using hk)] at this; exact Prod.mk.inj this)
        clear hk HRR
        obtain ⟨rfl, rfl⟩ := HK.out
        go_wp2
        exact bodyPost_ret (v := .tuple #[u, intV 0]) (by simp [results, Tryz.f13, go_sem]) rfl ⟨u, rfl, ⟨_, HU4.out⟩, HB4.out⟩
      · have q : (k != 0) = true := by simpa using hk
        have HK := Lib.hid (show l = [] ∧ e = k by have := HRR.out; rw [if_pos hk] at this; exact Prod.mk.inj this)
        clear hk HRR
        obtain ⟨rfl, rfl⟩ := HK.out
        go_wp2
        exact bodyPost_ret (v := .tuple #[.slice none 0 0, intV e]) (by simp [results, Tryz.f13, go_sem]) rfl ⟨.slice none 0 0, rfl, ⟨fun _ => True, VsAt.nil _ _ _ _⟩, HB4.out⟩
    · obtain ⟨k, hk⟩ : ∃ k, nestR A = k := ⟨_, rfl⟩
      have hr2 : parseR s = ([], k) := by
        unfold parseR
        rw [hA]
        show (if (0 : Int) ≠ 0 then _ else if nestR A ≠ 0 then _ else _) = _
        rw [if_neg (by simp), if_pos h1, hk]
      have HNE := Lib.hid (fun v W (h : LexAt W v A) => refNested_any refChk_any A k v W hk h hb)
      have q : (k != 0) = true := by rw [← hk]; simpa using h1
      obtain ⟨rfl, rfl⟩ := Prod.mk.inj (hr.symm.trans hr2)
      clear hr hb hal hok hv hr2 h1 hA hl hs hk
      go_enter Tryz.func13, Tryz.ntmps13
      go_wp2_with fail
      refine HS.out.mono ?_
      rintro e' w1 ⟨v, rfl, hv, b1⟩
      have HN1 := Lib.hid (HNE.out v w1 hv)
      have HB1 := Lib.hid b1
      clear hv b1 HNE
      go_wp2_with fail
      refine HN1.out.mono ?_
      rintro e' w2 ⟨rfl, b2⟩
      have HB2 := Lib.hid (below_then HB1.out b2)
      clear b2 HN1 HB1
      go_wp2
      exact bodyPost_ret (v := .tuple #[.slice none 0 0, intV e]) (by simp [results, Tryz.f13, go_sem]) rfl ⟨.slice none 0 0, rfl, ⟨fun _ => True, VsAt.nil _ _ _ _⟩, HB2.out⟩
  · have hr2 : parseR s = ([], k) := by unfold parseR; rw [hA]; exact if_pos h0
    obtain ⟨rfl, rfl⟩ := Prod.mk.inj (hr.symm.trans hr2)
    have q : (e != 0) = true := by simpa using h0
    clear hr hr2 h0 hA hl hs
    go_enter Tryz.func13, Tryz.ntmps13
    go_wp2_with fail
    refine HS.out.mono ?_
    rintro e' w1 ⟨v, rfl, hv, b1⟩
    have HB1 := Lib.hid b1
    clear hv b1 HS
    go_wp2
    exact bodyPost_ret (v := .tuple #[.slice none 0 0, intV e]) (by simp [results, Tryz.f13, go_sem]) rfl ⟨.slice none 0 0, rfl, ⟨fun _ => True, VsAt.nil _ _ _ _⟩, HB1.out⟩
end Go.Proofs.YtmfcepfagbkceaaGreatDoor
