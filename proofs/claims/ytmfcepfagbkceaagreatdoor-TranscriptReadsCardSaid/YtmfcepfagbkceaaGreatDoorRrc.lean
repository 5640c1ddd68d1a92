/- Stage 10 (transcript): MkRefSc, put together by merge10.py. -/
import Derived.Test.YtmfcepfagbkceaaGreatDoorRra2
import Derived.Test.YtmfcepfagbkceaaGreatDoorRrb
import Derived.Test.YtmfcepfagbkceaaGreatDoorRrc0
import Derived.Laws.EntriesVeiled
import Derived.Deep.Cut
namespace Go.Proofs.YtmfcepfagbkceaaGreatDoor
set_option linter.unusedSimpArgs false
set_option linter.unusedVariables false
set_option maxRecDepth 100000
open Go.RowKit Go.Deep
theorem tw_bytes (s : Bs) (o K : Nat) (b : UInt8) (bi : Int) (hb : (b.toNat : Int) = bi) (ho : o ≤ s.length) (hK : o + ((s.drop o).takeWhile (fun x => decide (x ≠ b))).length = K) :
    K ≤ s.length ∧ (∀ z, o ≤ z → z < K → ∃ (d : UInt8) (h3 : z < (baL s).size), (baL s)[z]'h3 = d ∧ ((d.toNat : Int) == bi) = false) ∧ (K < s.length → ∃ (d : UInt8) (h3 : K < (baL s).size), (baL s)[K]'h3 = d ∧ ((d.toNat : Int) == bi) = true) := by
  have hp := List.takeWhile_prefix (fun x : UInt8 => decide (x ≠ b)) (l := s.drop o)
  have hl := hp.length_le
  rw [List.length_drop] at hl
  have hat : ∀ j (h : j < (s.drop o).length), ∃ h3 : o + j < (baL s).size, (baL s)[o + j]'h3 = (s.drop o)[j] := fun j h => by
    rw [List.length_drop] at h
    refine ⟨by rw [baL_size]; omega, ?_⟩
    rw [baL_at s (o + j) (by omega)]
    simp
  refine ⟨by omega, fun z h1 h2 => ?_, fun h => ?_⟩
  · obtain ⟨j, rfl⟩ : ∃ j, z = o + j := ⟨z - o, by omega⟩
    obtain ⟨h3, h4⟩ := tw_in _ _ j (show j < ((s.drop o).takeWhile (fun x => decide (x ≠ b))).length by omega)
    obtain ⟨h5, h6⟩ := hat j h3
    refine ⟨_, h5, rfl, ?_⟩
    rw [h6, ← hb, beq_eq_false_iff_ne]
    intro e
    have h7 : (s.drop o)[j] = b := UInt8.toNat.inj (by omega)
    simp [h7] at h4
  · have h1 := tw_out (fun x : UInt8 => decide (x ≠ b)) (s.drop o) (by rw [List.length_drop]; omega)
    obtain ⟨h5, h6⟩ := hat _ (show ((s.drop o).takeWhile (fun x => decide (x ≠ b))).length < (s.drop o).length by rw [List.length_drop]; omega)
    subst hK
    refine ⟨_, h5, rfl, ?_⟩
    rw [h6, show (s.drop o)[((s.drop o).takeWhile (fun x => decide (x ≠ b))).length]'(by rw [List.length_drop]; omega) = b by simpa using h1, ← hb]
    simp
set_option maxHeartbeats 8000000 in
theorem refScan_any : RefScn := by
  intro s L e w hr hs
  have hsz : (baL s).size = s.length := baL_size s
  unfold maxLen at hs
  by_cases hbig : 65536 < s.length
  · have hd : decide ((65536 : Int) < (s.length : Int)) = true := decide_eq_true (by omega)
    have hr2 : L = [] ∧ e = 4 := by
      unfold scanR at hr
      rw [if_pos hbig] at hr
      cases hr; exact ⟨rfl, rfl⟩
    obtain ⟨rfl, rfl⟩ := hr2
    clear hr hbig
    go_enter Tryz.func41, Tryz.ntmps41
    go_wp2
    go_ret2
    exact ⟨_, rfl, LexAt.empty _ _ _, below_alloc _ _⟩
  · have hd : decide ((65536 : Int) < (s.length : Int)) = false := decide_eq_false (by omega)
    have hst : catR [] (scanF (s.length - 0) 0 (s.drop 0)) = (L, e) := by
      unfold scanR at hr
      rw [if_neg hbig] at hr
      rw [Nat.sub_zero, List.drop_zero, hr]
      unfold catR
      by_cases h0 : e = 0
      · simp [h0]
      · have := scanF_err s.length 0 s (by rw [hr]; exact h0)
        rw [hr] at this
        simp only at this
        rw [if_neg h0, this]
    have HST := Lib.hid hst
    have hfew : s.length ≤ 65536 := by omega
    have HAT := Lib.hid (show ∀ i (h : i < s.length), (baL s)[i]'(by rw [hsz]; exact h) = s[i] from fun i h => rfl)
    obtain ⟨i0, hi, hz0, hz1, hz2⟩ := info_parts info_lx
    clear hr hst hbig
    go_enter Tryz.func41, Tryz.ntmps41
    go_wp2
    go_loopw [4, 5] (fun sv ov wr => ∃ (o : Nat) (A : List Lx), o ≤ s.length ∧ A.length ≤ o ∧ ov = .int .i64 o ∧ Hid (catR A (scanF (s.length - o) o (s.drop o)) = (L, e)) ∧ wr.ownsRow w.heap.size 52 4 sv A.length (A.flatMap cellsX) ∧ Below w.heap.size w wr) (fun _ ov _ => s.length - (intOf ov).toNat)
    case atStart => exact ⟨0, [], Nat.zero_le _, by simp, rfl, HST, World.ownsRow_lit (base := w.heap.size) (e := 52) (size := 4) w #[] 0 (Nat.le_refl _) (by decide) rfl, below_alloc _ _⟩
    case round =>
      obtain ⟨o, A, ho, hA, rfl, HE, hown, hB⟩ := hrel
      obtain ⟨wk, rfl⟩ : ∃ x, x = wr := ⟨_, rfl⟩
      obtain ⟨ra, rc, rfl⟩ : ∃ a c, u4 = .slice a A.length c := by
        rcases hown.2 with ⟨h1, h2⟩ | ⟨g, cap, cur, h1, _⟩
        · exact ⟨none, 0, by rw [h1, h2]⟩
        · exact ⟨_, _, h1⟩
      have HBW := Lib.hid hB
      by_cases hlt : o < s.length
      · have HSS := Lib.hid (scan_step s o hlt hfew)
        obtain ⟨wB, hwB⟩ : ∃ y, wk.alloc (.cells #[intV 0, sV [], sV [], intV 0] 52) = y := ⟨_, rfl⟩
        have hAl : Below wk.heap.size wk wB := by rw [← hwB]; exact below_alloc _ _
        have hbz : wB.heap[wk.heap.size]? = some (.cells #[intV 0, sV [], sV [], intV 0] 52 (0, 0)) := by rw [← hwB]; exact World.alloc_heap_new _ _
        have hnB : wB.heap.size = wk.heap.size + 1 := by rw [← hwB]; simp
        have HBK := Lib.hid (show ∀ k, (Value.slice ra A.length rc).ownBlock = some k → k ≠ wk.heap.size from fun k hk => by have := (hown.lt k hk).2; omega)
        have hownB : wB.ownsRow w.heap.size 52 4 (.slice ra A.length rc) A.length (A.flatMap cellsX) := by rw [← hwB]; exact hown.alloc _
        have HOB := Lib.hid hownB
        have HBB := Lib.hid (below_then hB hAl)
        have HWB := Lib.hid hwB
        have HBZ := Lib.hid hbz
        obtain ⟨l, hl⟩ : ∃ l, s.drop o = l := ⟨_, rfl⟩
        have hll : l.length = s.length - o := by rw [← hl, List.length_drop]
        have hlne : l ≠ [] := fun h => by rw [h] at hll; simp at hll; omega
        have HLJ := Lib.hid (show ∀ j (h : j < l.length), ∃ h2 : o + j < (baL s).size, (baL s)[o + j]'h2 = l[j] from fun j h => by
          have h2 : o + j < s.length := by omega
          refine ⟨by rw [hsz]; exact h2, ?_⟩
          rw [HAT.out (o + j) h2]
          subst hl
          simp)
        have hl0 : l.head? = some (l[0]'(by omega)) := by
          cases l with
          | nil => exact absurd rfl hlne
          | cons c t => rfl
        obtain ⟨c, hc⟩ : ∃ c, l[0]'(by omega) = c := ⟨_, rfl⟩
        obtain ⟨h0z, hc0⟩ := HLJ.out 0 (by omega)
        rw [hc] at hc0 hl0
        have hc0 : (baL s)[o]'(by rw [hsz]; exact hlt) = c := hc0
        rw [hl] at HSS HE
        obtain ⟨q, hq⟩ : ∃ q, partOf l = q := ⟨_, rfl⟩
        have hql : q.length ≤ l.length := by rw [← hq]; exact part_le l
        have hqp : 0 < q.length := by
          rw [← hq]
          cases l with
          | nil => exact absurd rfl hlne
          | cons c t => exact part_pos c t
        have hcut : (baL s).extract o (o + q.length) = baL q := by
          rw [baL_cut, hl]
          congr 1
          rw [show o + q.length - o = q.length by omega, ← hq]
          exact part_cut
        have HCUT := Lib.hid hcut
        obtain ⟨⟨X, er⟩, hX⟩ : ∃ x, readR q = x := ⟨_, rfl⟩
        rw [hq, hX] at HSS
        have HCAT := Lib.hid (show (if er = 0 then catR (A ++ [⟨X.1, X.2.1, X.2.2, (o : Nat)⟩]) (scanF (s.length - (o + q.length)) (o + q.length) (s.drop (o + q.length))) else ([], er)) = (L, e) by
          have h1 := HE.out
          rw [HSS.out] at h1
          by_cases h0 : er = 0
          · rw [if_pos h0]
            rw [if_pos h0, cat_cons] at h1
            exact h1
          · rw [if_neg h0]
            rw [if_neg h0] at h1
            unfold catR at h1
            rw [if_neg h0] at h1
            exact h1)
        have ib0 : (0 : Int) ≤ (o : Int) := by omega
        have ib1 : (o : Int) < (s.length : Int) := by omega
        have ib2 : decide ((o : Int) < (s.length : Int)) = true := decide_eq_true ib1
        by_cases h6 : c = 60
        · have q5 : ((c.toNat : Int) == 60) = true := by rw [h6]; rfl
          have hh : l.head? = some 60 := by rw [hl0, h6]
          obtain ⟨K, hK⟩ : ∃ K, o + (l.takeWhile not62).length = K := ⟨_, rfl⟩
          have hoK : o ≤ K := by omega
          have HTAG := Lib.hid (show K < s.length → tagR q = (X, er) ∧ o + q.length = K + 1 ∧ 2 ≤ q.length from fun h => by
            obtain ⟨p1, p2, p3⟩ := part_tag hh (by rw [hll]; omega)
            rw [← p1, hq] at p2 p3
            rw [hX] at p2
            refine ⟨p2.symm, ?_, p3⟩
            have := congrArg List.length p1
            rw [hq, List.length_append, List.length_singleton] at this
            omega)
          have HOPEN := Lib.hid (show K = s.length → er = 3 from fun h => by
            have := part_open hh (by rw [hll]; omega)
            rw [hq, hX] at this
            exact this)
          clear hh h6
          obtain ⟨hKl, hZ, hE⟩ := tw_bytes s o K 62 62 rfl ho (by rw [hl]; exact hK)
          have HZ := Lib.hid hZ
          have HEND := Lib.hid hE
          clear hZ hE
          go_upto_region 8 with fail
          rw [show wk.alloc (.cells #[intV 0, .string ⟨#[]⟩, .string ⟨#[]⟩, intV 0] 52) = wB from HWB.out]
          clear hwB hl hll hlne hl0 hc hql hqp hq hX hbz hownB hown hB hAl
          go_wp2
          go_loopw [6] (fun ev wx => ∃ z : Nat, o ≤ z ∧ z ≤ K ∧ ev = .int .i64 z ∧ wx = wB) (fun ev _ => K - (intOf ev).toNat)
          case atStart => exact ⟨o, Nat.le_refl _, hoK, rfl, rfl⟩
          case round =>
            obtain ⟨z, hzA, hzB, rfl, rfl⟩ := hrel
            obtain ⟨wB, rfl⟩ : ∃ x, x = wr := ⟨_, rfl⟩
            by_cases hlz : z < K
            · obtain ⟨d, h3, hd, hne⟩ := HZ.out z hzA hlz
              have g0 : (0 : Int) ≤ (z : Int) := by omega
              have g1 : (z : Int) < (s.length : Int) := by omega
              have g2 : decide ((z : Int) < (s.length : Int)) = true := decide_eq_true g1
              go_wp2
              go_roundw
              case rel => exact ⟨z + 1, by omega, by omega, by go_num, trivial⟩
              case measure => simp [intOf]; omega
            · obtain rfl : z = K := by omega
              clear hlz HZ
              by_cases hzl : z < s.length
              · obtain ⟨d, h3, hd, hdb⟩ := HEND.out hzl
                have g0 : (0 : Int) ≤ (z : Int) := by omega
                have g1 : (z : Int) < (s.length : Int) := by omega
                have g2 : decide ((z : Int) < (s.length : Int)) = true := decide_eq_true g1
                have g3 : ((z : Int) == (s.length : Int)) = false := by rw [beq_eq_false_iff_ne]; omega
                obtain ⟨K1, hK1⟩ : ∃ k, z + 1 = k := ⟨_, rfl⟩
                obtain ⟨hr1, hoq, hq2⟩ := HTAG.out hzl
                have HQL := Lib.hid (show K1 = o + q.length by omega)
                have hcut := HCUT.out
                rw [← HQL.out] at hcut
                have HC2 := Lib.hid hcut
                have hwk : IntKind.i64.wrap ((z : Int) + 1) = (K1 : Int) := by rw [show (z : Int) + 1 = (K1 : Int) by omega]; exact IntWalk.i64_in _ (by omega)
                have k1 : (o : Int) ≤ (K1 : Int) := by omega
                have k2 : (K1 : Int) ≤ (s.length : Int) := by omega
                have k3 : o ≤ K1 := by omega
                have k5 : o < K1 := by omega
                have k4 : K1 ≤ s.length := by omega
                have HTG := Lib.hid (fun W => tag_any q hq2 (by omega) _ hr1 W)
                clear hcut hK1 hr1 hq2
                go_wp2_with fail
                rw [HC2.out]
                refine (HTG.out _).mono ?_
                rintro e' w8 ⟨rfl, h8⟩
                simp only
                have hb8 := (h8.block _ (by omega)).trans HBZ.out
                have own8 : w8.ownsRow w.heap.size 52 4 (.slice ra A.length rc) A.length (A.flatMap cellsX) := (show OwnX _ _ _ _ from HOB.out).below h8
                have B8 := Lib.hid (below_then HBB.out h8)
                have hn8 := h8.size
                obtain ⟨w9, hw9⟩ : ∃ y, w8.alloc (.cells #[intV X.1, sV X.2.1, sV X.2.2, intV 0] 52) = y := ⟨_, rfl⟩
                have hA9 : Below w8.heap.size w8 w9 := by rw [← hw9]; exact below_alloc _ _
                have hb9 := (hA9.block _ (by omega)).trans hb8
                have hx9 : w9.heap[w8.heap.size]? = some (.cells #[intV X.1, sV X.2.1, sV X.2.2, intV 0] 52 (0, 0)) := by rw [← hw9]; exact World.alloc_heap_new _ _
                have hn9 : w9.heap.size = w8.heap.size + 1 := by rw [← hw9]; simp
                have own9 : w9.ownsRow w.heap.size 52 4 (.slice ra A.length rc) A.length (A.flatMap cellsX) := by rw [← hw9]; exact own8.alloc _
                have HW9 := Lib.hid hw9
                have B9 := Lib.hid (below_then B8.out hA9)
                clear h8 hb8 own8 hw9 hA9
                go_upto_region 15 with fail
                rw [HW9.out]
                by_cases her : er = 0
                · have q0 : (er != 0) = false := by simp [her]
                  have HNX := Lib.hid (show catR (A ++ [⟨X.1, X.2.1, X.2.2, (o : Nat)⟩]) (scanF (s.length - (o + q.length)) (o + q.length) (s.drop (o + q.length))) = (L, e) by have := HCAT.out; rwa [if_pos her] at this)
                  obtain ⟨x0, x1, x2, x3⟩ := heap4P hx9
                  clear her hx9
                  obtain ⟨z0, z1, z2, z3⟩ := heap4P hb9
                  have f0 := heap_free hb9 0
                  have f1 := heap_free hb9 1
                  have f2 := heap_free hb9 2
                  have f3 := heap_free hb9 3
                  obtain ⟨W4, hW4⟩ : ∃ y, (((w9.setCell ⟨wk.heap.size, 0, none⟩ (intV X.1)).setCell ⟨wk.heap.size, 1, none⟩ (sV X.2.1)).setCell ⟨wk.heap.size, 2, none⟩ (sV X.2.2)).setCell ⟨wk.heap.size, 3, none⟩ (intV 0) = y := ⟨_, rfl⟩
                  obtain ⟨s1, s2, s3⟩ := set4P hb9 (Nat.le_refl _) hW4
                  have t3 := (heap4P s1).2.2.2
                  have g3 := heap_free s1 3
                  obtain ⟨W5, hW5⟩ : ∃ y, W4.setCell ⟨wk.heap.size, 3, none⟩ (intV o) = y := ⟨_, rfl⟩
                  have u1 : W5.heap[wk.heap.size]? = some (.cells #[intV X.1, sV X.2.1, sV X.2.2, intV o] 52 (0, 0)) := by rw [← hW5]; exact set_step 3 (intV o) s1
                  have u2 : ∀ j, j ≠ wk.heap.size → W5.heap[j]? = w9.heap[j]? := fun j hj => by rw [← hW5, Below.heap_setCell _ _ _ _ hj]; exact s2 j hj
                  have u3' : Below wk.heap.size w9 W5 := by rw [← hW5]; exact s3.setCell (p := ⟨wk.heap.size, 3, none⟩) (Nat.le_refl _) _
                  have hn5 := u3'.size
                  have HO5 := Lib.hid (own_apart own9 u2 u3' HBK.out)
                  have HB5 := Lib.hid (B9.out.trans (u3'.mono (by have := HBW.out.size; omega)))
                  have HNW := Lib.hid (fun cap => LexAt.news (LexAt.of_block (cap := cap) (L := [⟨X.1, X.2.1, X.2.2, (o : Nat)⟩]) (World.alloc_heap_new W5 (.cells #[intV X.1, sV X.2.1, sV X.2.2, intV o] 52)) (by first | (simp [cellsX]; done) | (simp [cellsX]; rfl))))
                  have HS4 := Lib.hid hW4
                  have HS5 := Lib.hid hW5
                  obtain ⟨v0, v1, v2, v3⟩ := heap4P u1
                  clear hW4 hW5 s1 s2 s3 u1 u2 u3' hb9
                  go_upto_region 23 with fail
                  rw [HS4.out]
                  clear z0 z1 z2 z3 f0 f1 f2 f3
                  go_upto_region 24 with fail
                  rw [HS5.out]
                  clear t3 g3
                  go_wp2_with (at_builtin; refine wpList_append_own _ rfl _ _ 47 rfl w.heap.size 52 i0 _ 4 48 Tryz.underlying47 hi hz0 hz1 hz2 rfl (by decide) _ _ _ rfl (HO5.out.alloc _) ⟨W5.heap.size, 0, none⟩ 1 1 ([⟨X.1, X.2.1, X.2.2, (o : Nat)⟩].flatMap cellsX) rfl (by simp [cellsX]) (HNW.out 1) (flatX_one [⟨X.1, X.2.1, X.2.2, (o : Nat)⟩]) (by unfold maxLen; omega) (by omega) (by have := HB5.out.size; simp; omega) ?_; intro v' w3' hown' hgrow hnn; clear hnn; have HO3 := Lib.hid hown'; have HB3 := Lib.hid ((HB5.out.alloc HB5.out.size _).grown hgrow (by have := HB5.out.size; simp; omega) (fun q hq => (HO5.out.lt q hq).1)); obtain ⟨va, vc, rfl⟩ : ∃ a c, v' = .slice a (A.length + 1) c := (by rcases hown'.2 with ⟨h1, h2⟩ | ⟨g, cap, cur, h1, _⟩; (exact absurd h2 (by omega)); (exact ⟨_, _, h1⟩)); clear hown' hgrow)
                  have hqq := HQL.out
                  go_roundw
                  case rel => exact ⟨o + q.length, A ++ [⟨X.1, X.2.1, X.2.2, (o : Nat)⟩], by omega, by rw [List.length_append, List.length_singleton]; omega, by rw [← HQL.out], HNX, by rw [List.length_append, List.length_singleton, List.flatMap_append]; exact HO3.out, HB3.out⟩
                  case measure => simp [intOf]; omega
                · have q0 : (er != 0) = true := by simpa using her
                  have HLE := Lib.hid (show ([], er) = (L, e) by have := HCAT.out; rwa [if_neg her] at this)
                  clear her hx9 hb9 own9
                  go_wp2
                  go_ret2
                  have hle := HLE.out
                  cases hle
                  exact ⟨_, rfl, LexAt.empty _ _ _, B9.out.trans ((below_alloc w9 _).mono (by have := B9.out.size; omega))⟩
              · obtain rfl : z = s.length := by omega
                have g2 : decide ((s.length : Int) < (s.length : Int)) = false := decide_eq_false (by omega)
                have g3 : ((s.length : Int) == (s.length : Int)) = true := by simp
                have HLE := Lib.hid (show ([], (3 : Int)) = (L, e) by
                  have h3 := HOPEN.out rfl
                  have h4 := HCAT.out
                  rw [h3, if_neg (by decide)] at h4
                  exact h4)
                go_wp2
                go_ret2
                have hle := HLE.out
                cases hle
                exact ⟨_, rfl, LexAt.empty _ _ _, HBB.out.trans ((below_alloc wB _).mono (by have := HBB.out.size; omega))⟩
        · have q5 : ((c.toNat : Int) == 60) = false := by
            rw [beq_eq_false_iff_ne]
            intro h
            exact h6 (UInt8.toNat.inj (by show c.toNat = 60; omega))
          have hh : ¬ l.head? = some 60 := by rw [hl0]; simpa using h6
          obtain ⟨K, hK⟩ : ∃ K, o + (l.takeWhile not60).length = K := ⟨_, rfl⟩
          have hoK : o ≤ K := by omega
          have hq16 : q.length ≤ 65536 := by omega
          have hq17 : 0 < q.length := hqp
          have HTX := Lib.hid (show (X, er) = (if chk q ≠ 0 then ((0, [], []), 11) else ((1, [], q), 0)) ∧ K = o + q.length by
            obtain ⟨p1, p2⟩ := part_text hh hlne
            rw [← p1, hq] at p2
            rw [hX] at p2
            refine ⟨p2, ?_⟩
            have := congrArg List.length p1
            rw [hq] at this
            omega)
          clear hh h6
          obtain ⟨hKl, hZ, hE⟩ := tw_bytes s o K 60 60 rfl ho (by rw [hl]; exact hK)
          have HZ := Lib.hid hZ
          have HEND := Lib.hid hE
          clear hZ hE
          go_upto_region 8 with fail
          rw [show wk.alloc (.cells #[intV 0, .string ⟨#[]⟩, .string ⟨#[]⟩, intV 0] 52) = wB from HWB.out]
          clear hwB hl hll hlne hl0 hc hql hqp hq hX hbz hownB hown hB hAl
          go_wp2
          go_loopw [6] (fun ev wx => ∃ z : Nat, o ≤ z ∧ z ≤ K ∧ ev = .int .i64 z ∧ wx = wB) (fun ev _ => K - (intOf ev).toNat)
          case atStart => exact ⟨o, Nat.le_refl _, hoK, rfl, rfl⟩
          case round =>
            obtain ⟨z, hzA, hzB, rfl, rfl⟩ := hrel
            obtain ⟨wB, rfl⟩ : ∃ x, x = wr := ⟨_, rfl⟩
            by_cases hlz : z < K
            · obtain ⟨d, h3, hd, hne⟩ := HZ.out z hzA hlz
              have g0 : (0 : Int) ≤ (z : Int) := by omega
              have g1 : (z : Int) < (s.length : Int) := by omega
              have g2 : decide ((z : Int) < (s.length : Int)) = true := decide_eq_true g1
              go_wp2
              go_roundw
              case rel => exact ⟨z + 1, by omega, by omega, by go_num, trivial⟩
              case measure => simp [intOf]; omega
            · obtain rfl : z = K := by omega
              clear hlz HZ
              by_cases hzl : z < s.length
              · obtain ⟨d, h3, hd, hdb⟩ := HEND.out hzl
                have g0 : (0 : Int) ≤ (z : Int) := by omega
                have g1 : (z : Int) < (s.length : Int) := by omega
                have g2 : decide ((z : Int) < (s.length : Int)) = true := decide_eq_true g1
                have HQL := Lib.hid (show z = o + q.length from HTX.out.2)
                have hcut := HCUT.out
                rw [← HQL.out] at hcut
                have HC2 := Lib.hid hcut
                have k1 : (o : Int) ≤ (z : Int) := by omega
                have k2 : (z : Int) ≤ (s.length : Int) := by omega
                have k3 : o ≤ z := by omega
                have k5 : o < z := by have := HTX.out.2; omega
                have k4 : z ≤ s.length := by omega
                obtain ⟨r, hr1⟩ : ∃ r, chk q = r := ⟨_, rfl⟩
                have HTG := Lib.hid (fun W => R01.refCheck_at (baL q) r hr1 (by rw [baL_size]; unfold maxLen; omega) W)
                have HRX := Lib.hid (show (X, er) = if r ≠ 0 then ((0, [], []), 11) else ((1, [], q), 0) by rw [← hr1]; exact HTX.out.1)
                clear hcut hr1
                go_wp2_with fail
                rw [HC2.out]
                refine (HTG.out _).mono ?_
                rintro e' w8 ⟨rfl, h8⟩
                have hb8 := (h8.block _ (by omega)).trans HBZ.out
                have own8 : w8.ownsRow w.heap.size 52 4 (.slice ra A.length rc) A.length (A.flatMap cellsX) := (show OwnX _ _ _ _ from HOB.out).below h8
                have B8 := Lib.hid (below_then HBB.out h8)
                have hn8 := h8.size
                clear h8
                by_cases her : r = 0
                · have q0 : (r != 0) = false := by simp [her]
                  have hrx := HRX.out
                  rw [if_neg (fun h => h her)] at hrx
                  simp only [Prod.mk.injEq] at hrx
                  obtain ⟨hX1, her2⟩ := hrx
                  have HNX := Lib.hid (show catR (A ++ [⟨1, [], q, (o : Nat)⟩]) (scanF (s.length - (o + q.length)) (o + q.length) (s.drop (o + q.length))) = (L, e) by have := HCAT.out; rw [if_pos her2, hX1] at this; exact this)
                  clear hX1
                  clear her her2
                  obtain ⟨z0, z1, z2, z3⟩ := heap4P hb8
                  have f0 := heap_free hb8 0
                  have f1 := heap_free hb8 1
                  have f2 := heap_free hb8 2
                  have f3 := heap_free hb8 3
                  obtain ⟨W4, hW4⟩ : ∃ y, (((w8.setCell ⟨wk.heap.size, 0, none⟩ (intV 1)).setCell ⟨wk.heap.size, 1, none⟩ (.string ⟨#[]⟩)).setCell ⟨wk.heap.size, 2, none⟩ (sV q)).setCell ⟨wk.heap.size, 3, none⟩ (intV 0) = y := ⟨_, rfl⟩
                  obtain ⟨s1, s2, s3⟩ := set4P hb8 (Nat.le_refl _) hW4
                  have t3 := (heap4P s1).2.2.2
                  have g3 := heap_free s1 3
                  obtain ⟨W5, hW5⟩ : ∃ y, W4.setCell ⟨wk.heap.size, 3, none⟩ (intV o) = y := ⟨_, rfl⟩
                  have u1 : W5.heap[wk.heap.size]? = some (.cells #[intV 1, .string ⟨#[]⟩, sV q, intV o] 52 (0, 0)) := by rw [← hW5]; exact set_step 3 (intV o) s1
                  have u2 : ∀ j, j ≠ wk.heap.size → W5.heap[j]? = w8.heap[j]? := fun j hj => by rw [← hW5, Below.heap_setCell _ _ _ _ hj]; exact s2 j hj
                  have u3' : Below wk.heap.size w8 W5 := by rw [← hW5]; exact s3.setCell (p := ⟨wk.heap.size, 3, none⟩) (Nat.le_refl _) _
                  have hn5 := u3'.size
                  have HO5 := Lib.hid (own_apart own8 u2 u3' HBK.out)
                  have HB5 := Lib.hid (B8.out.trans (u3'.mono (by have := HBW.out.size; omega)))
                  have HNW := Lib.hid (fun cap => LexAt.news (LexAt.of_block (cap := cap) (L := [⟨1, [], q, (o : Nat)⟩]) (World.alloc_heap_new W5 (.cells #[intV 1, .string ⟨#[]⟩, sV q, intV o] 52)) (by first | (simp [cellsX]; done) | (simp [cellsX]; rfl))))
                  have HS4 := Lib.hid hW4
                  have HS5 := Lib.hid hW5
                  obtain ⟨v0, v1, v2, v3⟩ := heap4P u1
                  clear hW4 hW5 s1 s2 s3 u1 u2 u3' hb8
                  go_upto_region 23 with fail
                  (try rw [HC2.out])
                  rw [HS4.out]
                  clear z0 z1 z2 z3 f0 f1 f2 f3
                  go_upto_region 24 with fail
                  rw [HS5.out]
                  clear t3 g3
                  go_wp2_with (at_builtin; refine wpList_append_own _ rfl _ _ 47 rfl w.heap.size 52 i0 _ 4 48 Tryz.underlying47 hi hz0 hz1 hz2 rfl (by decide) _ _ _ rfl (HO5.out.alloc _) ⟨W5.heap.size, 0, none⟩ 1 1 ([⟨1, [], q, (o : Nat)⟩].flatMap cellsX) rfl (by simp [cellsX]) (HNW.out 1) (flatX_one [⟨1, [], q, (o : Nat)⟩]) (by unfold maxLen; omega) (by omega) (by have := HB5.out.size; simp; omega) ?_; intro v' w3' hown' hgrow hnn; clear hnn; have HO3 := Lib.hid hown'; have HB3 := Lib.hid ((HB5.out.alloc HB5.out.size _).grown hgrow (by have := HB5.out.size; simp; omega) (fun q hq => (HO5.out.lt q hq).1)); obtain ⟨va, vc, rfl⟩ : ∃ a c, v' = .slice a (A.length + 1) c := (by rcases hown'.2 with ⟨h1, h2⟩ | ⟨g, cap, cur, h1, _⟩; (exact absurd h2 (by omega)); (exact ⟨_, _, h1⟩)); clear hown' hgrow)
                  have hqq := HQL.out
                  go_roundw
                  case rel => exact ⟨o + q.length, A ++ [⟨1, [], q, (o : Nat)⟩], by omega, by rw [List.length_append, List.length_singleton]; omega, by rw [← HQL.out], HNX, by rw [List.length_append, List.length_singleton, List.flatMap_append]; exact HO3.out, HB3.out⟩
                  case measure => simp [intOf]; omega
                · have q0 : (r != 0) = true := by simpa using her
                  have HLE := Lib.hid (show ([], (11 : Int)) = (L, e) by
                    have hrx := HRX.out
                    rw [if_pos her] at hrx
                    simp only [Prod.mk.injEq] at hrx
                    have h4 := HCAT.out
                    rw [hrx.2, if_neg (by decide)] at h4
                    exact h4)
                  clear her hb8 own8
                  go_wp2
                  go_ret2
                  have hle := HLE.out
                  cases hle
                  exact ⟨_, rfl, LexAt.empty _ _ _, B8.out.trans ((below_alloc w8 _).mono (by have := B8.out.size; omega))⟩
              · have g2 : decide ((z : Int) < (s.length : Int)) = false := decide_eq_false (by omega)
                have g1 : ¬ (z : Int) < (s.length : Int) := by omega
                have HQL := Lib.hid (show z = o + q.length from HTX.out.2)
                have hcut := HCUT.out
                rw [← HQL.out] at hcut
                have HC2 := Lib.hid hcut
                have k1 : (o : Int) ≤ (z : Int) := by omega
                have k2 : (z : Int) ≤ (s.length : Int) := by omega
                have k3 : o ≤ z := by omega
                have k5 : o < z := by have := HTX.out.2; omega
                have k4 : z ≤ s.length := by omega
                obtain ⟨r, hr1⟩ : ∃ r, chk q = r := ⟨_, rfl⟩
                have HTG := Lib.hid (fun W => R01.refCheck_at (baL q) r hr1 (by rw [baL_size]; unfold maxLen; omega) W)
                have HRX := Lib.hid (show (X, er) = if r ≠ 0 then ((0, [], []), 11) else ((1, [], q), 0) by rw [← hr1]; exact HTX.out.1)
                clear hcut hr1
                go_wp2_with fail
                rw [HC2.out]
                refine (HTG.out _).mono ?_
                rintro e' w8 ⟨rfl, h8⟩
                have hb8 := (h8.block _ (by omega)).trans HBZ.out
                have own8 : w8.ownsRow w.heap.size 52 4 (.slice ra A.length rc) A.length (A.flatMap cellsX) := (show OwnX _ _ _ _ from HOB.out).below h8
                have B8 := Lib.hid (below_then HBB.out h8)
                have hn8 := h8.size
                clear h8
                by_cases her : r = 0
                · have q0 : (r != 0) = false := by simp [her]
                  have hrx := HRX.out
                  rw [if_neg (fun h => h her)] at hrx
                  simp only [Prod.mk.injEq] at hrx
                  obtain ⟨hX1, her2⟩ := hrx
                  have HNX := Lib.hid (show catR (A ++ [⟨1, [], q, (o : Nat)⟩]) (scanF (s.length - (o + q.length)) (o + q.length) (s.drop (o + q.length))) = (L, e) by have := HCAT.out; rw [if_pos her2, hX1] at this; exact this)
                  clear hX1
                  clear her her2
                  obtain ⟨z0, z1, z2, z3⟩ := heap4P hb8
                  have f0 := heap_free hb8 0
                  have f1 := heap_free hb8 1
                  have f2 := heap_free hb8 2
                  have f3 := heap_free hb8 3
                  obtain ⟨W4, hW4⟩ : ∃ y, (((w8.setCell ⟨wk.heap.size, 0, none⟩ (intV 1)).setCell ⟨wk.heap.size, 1, none⟩ (.string ⟨#[]⟩)).setCell ⟨wk.heap.size, 2, none⟩ (sV q)).setCell ⟨wk.heap.size, 3, none⟩ (intV 0) = y := ⟨_, rfl⟩
                  obtain ⟨s1, s2, s3⟩ := set4P hb8 (Nat.le_refl _) hW4
                  have t3 := (heap4P s1).2.2.2
                  have g3 := heap_free s1 3
                  obtain ⟨W5, hW5⟩ : ∃ y, W4.setCell ⟨wk.heap.size, 3, none⟩ (intV o) = y := ⟨_, rfl⟩
                  have u1 : W5.heap[wk.heap.size]? = some (.cells #[intV 1, .string ⟨#[]⟩, sV q, intV o] 52 (0, 0)) := by rw [← hW5]; exact set_step 3 (intV o) s1
                  have u2 : ∀ j, j ≠ wk.heap.size → W5.heap[j]? = w8.heap[j]? := fun j hj => by rw [← hW5, Below.heap_setCell _ _ _ _ hj]; exact s2 j hj
                  have u3' : Below wk.heap.size w8 W5 := by rw [← hW5]; exact s3.setCell (p := ⟨wk.heap.size, 3, none⟩) (Nat.le_refl _) _
                  have hn5 := u3'.size
                  have HO5 := Lib.hid (own_apart own8 u2 u3' HBK.out)
                  have HB5 := Lib.hid (B8.out.trans (u3'.mono (by have := HBW.out.size; omega)))
                  have HNW := Lib.hid (fun cap => LexAt.news (LexAt.of_block (cap := cap) (L := [⟨1, [], q, (o : Nat)⟩]) (World.alloc_heap_new W5 (.cells #[intV 1, .string ⟨#[]⟩, sV q, intV o] 52)) (by first | (simp [cellsX]; done) | (simp [cellsX]; rfl))))
                  have HS4 := Lib.hid hW4
                  have HS5 := Lib.hid hW5
                  obtain ⟨v0, v1, v2, v3⟩ := heap4P u1
                  clear hW4 hW5 s1 s2 s3 u1 u2 u3' hb8
                  go_upto_region 23 with fail
                  (try rw [HC2.out])
                  rw [HS4.out]
                  clear z0 z1 z2 z3 f0 f1 f2 f3
                  go_upto_region 24 with fail
                  rw [HS5.out]
                  clear t3 g3
                  go_wp2_with (at_builtin; refine wpList_append_own _ rfl _ _ 47 rfl w.heap.size 52 i0 _ 4 48 Tryz.underlying47 hi hz0 hz1 hz2 rfl (by decide) _ _ _ rfl (HO5.out.alloc _) ⟨W5.heap.size, 0, none⟩ 1 1 ([⟨1, [], q, (o : Nat)⟩].flatMap cellsX) rfl (by simp [cellsX]) (HNW.out 1) (flatX_one [⟨1, [], q, (o : Nat)⟩]) (by unfold maxLen; omega) (by omega) (by have := HB5.out.size; simp; omega) ?_; intro v' w3' hown' hgrow hnn; clear hnn; have HO3 := Lib.hid hown'; have HB3 := Lib.hid ((HB5.out.alloc HB5.out.size _).grown hgrow (by have := HB5.out.size; simp; omega) (fun q hq => (HO5.out.lt q hq).1)); obtain ⟨va, vc, rfl⟩ : ∃ a c, v' = .slice a (A.length + 1) c := (by rcases hown'.2 with ⟨h1, h2⟩ | ⟨g, cap, cur, h1, _⟩; (exact absurd h2 (by omega)); (exact ⟨_, _, h1⟩)); clear hown' hgrow)
                  have hqq := HQL.out
                  go_roundw
                  case rel => exact ⟨o + q.length, A ++ [⟨1, [], q, (o : Nat)⟩], by omega, by rw [List.length_append, List.length_singleton]; omega, by rw [← HQL.out], HNX, by rw [List.length_append, List.length_singleton, List.flatMap_append]; exact HO3.out, HB3.out⟩
                  case measure => simp [intOf]; omega
                · have q0 : (r != 0) = true := by simpa using her
                  have HLE := Lib.hid (show ([], (11 : Int)) = (L, e) by
                    have hrx := HRX.out
                    rw [if_pos her] at hrx
                    simp only [Prod.mk.injEq] at hrx
                    have h4 := HCAT.out
                    rw [hrx.2, if_neg (by decide)] at h4
                    exact h4)
                  clear her hb8 own8
                  go_wp2
                  go_ret2
                  have hle := HLE.out
                  cases hle
                  exact ⟨_, rfl, LexAt.empty _ _ _, B8.out.trans ((below_alloc w8 _).mono (by have := B8.out.size; omega))⟩
      · obtain rfl : o = s.length := by omega
        have hfin : (A, (0 : Int)) = (L, e) := by
          have := HE.out
          rw [Nat.sub_self] at this
          unfold scanF catR at this
          simpa using this
        have HF := Lib.hid hfin
        have HOW := Lib.hid hown
        have ib2 : decide ((s.length : Int) < (s.length : Int)) = false := decide_eq_false (by omega)
        clear hown hB hfin
        go_wp2
        go_ret2
        have := HF.out
        cases this
        exact ⟨_, rfl, LexAt.of_own HOW.out, HBW.out⟩
end Go.Proofs.YtmfcepfagbkceaaGreatDoor
