/- Cover: its walk. -/
import Derived.Test.YteceahbnafaeoaaSpCover
import Derived.Test.YteceahbnafaeoaaSqRow
import Derived.Maps.AppendAt
import Derived.Shelf.RegionOpen
import Derived.Laws.EntriesVeiled
namespace Go.Proofs.Yteceahbnafaeoaa
set_option linter.unusedSimpArgs false
set_option linter.unusedVariables false
set_option maxRecDepth 100000
open Go.RowKit Go.Deep

theorem info_rows : (Try.prog.info? 22).map (fun i => (i.zero, i.size, i.bytes)) = some (some (.slice none 0 0), 1, 24) := by kernel_rfl
theorem cell_of_blkC {W : World} {b : Nat} {v : Value} {t : TypeId} (h : W.heap[b]? = some (.cells #[v] t)) : W.cell? ⟨b, 0, none⟩ = some v := by simp only [World.cell?, h]; rfl
theorem place_len (l : List Int) (i x : Int) : ∀ L : List (List Int), (place l i x L).length ≤ L.length + 1
  | [] => by simp [place]
  | p :: L => by
    have := place_len l i x L
    unfold place
    split <;> simp <;> omega
theorem covN_len (l : List Int) : ∀ n, (covN l n).length ≤ n
  | 0 => by simp [covN]
  | n + 1 => by
    have h1 := covN_len l n
    have h2 := place_len l n (at0 l n) (covN l n)
    rw [covN]; omega
theorem covN_parts (l : List Int) (n : Nat) (hn : n ≤ l.length) (hl : l.length ≤ 1000000) : ∀ p ∈ covN l n, 0 < p.length ∧ p.length ≤ 1000000 ∧ inB l (p.getLastD 0) = true := fun p hp => by
  obtain ⟨h1, _⟩ := (cov_ok l n hn).pile p hp
  unfold pileB at h1
  rw [Bool.and_eq_true, decide_eq_true_eq] at h1
  refine ⟨h1.1, Nat.le_trans (des_length h1.2) hl, (des_down h1.2).1 _ ?_⟩
  rw [last_ix h1.1]
  exact List.getElem_mem _
theorem news_at (w : World) (x : Value) (t : TypeId) (b : Nat) (hb : w.heap.size = b) : ∀ j u, [x][j]? = some u → (w.alloc (.cells #[x] t)).cell? ((⟨b, 0, none⟩ : Addr).add j) = some u := by
  subst hb
  exact cell_one_new w x t
theorem below_allocP (w : World) (o : Obj) : Below w.heap.size w (w.alloc o) := (Below.refl _ w).alloc (Nat.le_refl _) o
theorem covN_add (l : List Int) (n : Nat) (x : Int) (hx : at0 l n = x) (h : ∀ p ∈ covN l n, takes l x p = false) : covN l (n + 1) = covN l n ++ [[(n : Int)]] := by
  rw [covN, hx]; exact place_none l n x _ h
theorem covN_set (l : List Int) (n : Nat) (x : Int) (hx : at0 l n = x) (k : Nat) (hk : k < (covN l n).length) (h : ∀ (j : Nat) (hj : j < k), takes l x ((covN l n)[j]'(Nat.lt_trans hj hk)) = false) (h2 : takes l x (covN l n)[k] = true) : covN l (n + 1) = (covN l n).set k ((covN l n)[k] ++ [(n : Int)]) := by
  rw [covN, hx]; exact place_at l n x _ k hk h h2
set_option maxHeartbeats 4000000 in
theorem coverP_any (l : List Int) (v : Value) (w : World) (hv : IntsAt w v l) : Calls Try.prog 15 #[v] w (ListsPost (covE l) w) := by
  have HV := Lib.hid hv
  obtain ⟨a, cap, rfl⟩ := hv.slice
  have hB0 : Below w.heap.size w (w.alloc (.cells #[.slice a l.length cap] 22)) := (Below.refl _ w).alloc (Nat.le_refl _) _
  have HC0 := Lib.hid (cell_of_blkC (blk_alloc_new w (.cells #[.slice a l.length cap] 22)))
  by_cases h1 : 1024 < l.length
  · have TL := Lib.hid (tooLong_any l (.slice a l.length cap) true (decide_eq_true h1) _ (hv.below hB0))
    have e : covE l = ([], 4) := by unfold covE; rw [if_pos h1]
    rw [e]
    have HB0 := Lib.hid hB0
    clear hv e hB0
    go_enter Try.func15, Try.ntmps15
    go_wp2_with fail
    refine TL.out.mono ?_
    rintro e w1 ⟨rfl, rfl⟩
    go_wp2
    go_ret2
    exact ⟨_, rfl, ⟨none, 0, rfl, fun h => absurd h (by simp)⟩, HB0.out⟩
  · have hl : l.length ≤ 1024 := by omega
    have TL := Lib.hid (tooLong_any l (.slice a l.length cap) false (decide_eq_false h1) _ (hv.below hB0))
    have HE := Lib.hid (show covE l = (covN l l.length, 0) by unfold covE; rw [if_neg h1]; rfl)
    have HLI := Lib.hid (hv.below hB0)
    have HCP := Lib.hid (fun n hn => covN_parts l n hn (by omega))
    have HCL := Lib.hid (covN_len l)
    have IDX := Lib.hid (fun x be L hL hne u W hC hu => indexL_any l a cap x w.heap.size be L hL hne u W hC hu)
    obtain ⟨wA, hwA⟩ : ∃ x, w.alloc (.cells #[.slice a l.length cap] 22) = x := ⟨_, rfl⟩
    have hsA : wA.heap.size = w.heap.size + 1 := by rw [← hwA, nblk_alloc]
    rw [hwA] at TL HC0 HLI hB0
    have HB0 := Lib.hid hB0
    have HSA := Lib.hid hsA
    obtain ⟨i0, hi, hz0, hz1, hz2⟩ := info_parts info_int
    obtain ⟨r0, hr, hy0, hy1, hy2⟩ := info_parts info_rows
    clear hv h1 hB0
    have c0 := HC0.out
    go_enter Try.func15, Try.ntmps15
    go_wp2_with fail
    clear hwA
    refine TL.out.mono ?_
    rintro e w1 ⟨rfl, rfl⟩
    obtain ⟨wA, rfl⟩ : ∃ x, x = w1 := ⟨_, rfl⟩
    go_wp2
    clear c0
    obtain ⟨B, hBB⟩ : ∃ B, wA.heap.size = B := ⟨_, rfl⟩
    have HBB := Lib.hid hBB
    clear hBB hsA
    go_loopw [4, 12] (fun cv iv wr => ∃ (n : Nat) (sl : List Value), n ≤ l.length ∧ iv = .int .i64 n ∧ Piles wr B cv sl (covN l n) ∧ Below B wA wr) (fun _ iv _ => l.length - (intOf iv).toNat)
    case atStart => exact ⟨0, [], Nat.zero_le _, rfl, Piles.nil _ _, Below.refl _ _⟩
    case round =>
      obtain ⟨n, sl, hn, rfl, hP, hB⟩ := hrel
      obtain ⟨wk, rfl⟩ : ∃ x, x = wr := ⟨_, rfl⟩
      have HP := Lib.hid hP
      have HB := Lib.hid hB
      obtain ⟨av, cv, rfl⟩ := hP.slice
      by_cases hlt : n < l.length
      · obtain ⟨b, off, rfl, hbb, c0⟩ := HLI.out.elem hlt
        have hbw : b < B := by rw [← HBB.out]; exact hbb
        have c1 := (hB.cell (p := ⟨b, off + n, none⟩) hbw).trans c0
        have HXX := Lib.hid (at0_get l n hlt)
        obtain ⟨x, hx⟩ : ∃ x, l[n] = x := ⟨_, rfl⟩
        rw [hx] at c1 HXX
        have n0 : (0 : Int) ≤ (n : Int) := by omega
        have n1 : (n : Int) < (l.length : Int) := by omega
        clear hP hB c0 hbb hbw hx
        go_wp2_with fail
        have HBD1 := Lib.hid (below_allocP wk (.cells #[.int .i64 x] 3))
        have HCV := Lib.hid (show CvC l (some ⟨b, off, none⟩) cap x w.heap.size wk.heap.size (wk.alloc (.cells #[.int .i64 x] 3)) from
          ⟨(HLI.out.below (by rw [HBB.out]; exact HB.out)).below HBD1.out, (HBD1.out.cell (p := ⟨w.heap.size, 0, none⟩) (by have := HB.out.size; have := HBB.out; have := HSA.out; show w.heap.size < wk.heap.size; omega)).trans ((HB.out.cell (p := ⟨w.heap.size, 0, none⟩) (by have := HBB.out; have := HSA.out; show w.heap.size < B; omega)).trans HC0.out), cell_of_blkC (blk_alloc_new _ _)⟩)
        refine (IDX.out x wk.heap.size (covN l n) (by have := HCL.out n; omega) (HCP.out n (by omega)) _ _ HCV.out (HP.out.below HBD1.out).lists).mono ?_
        rintro e w2 ⟨r, rfl, hpick, hB2⟩
        have HP2 := Lib.hid ((HP.out.below HBD1.out).below hB2)
        have HB2 := Lib.hid (HB.out.trans ((below_then HBD1.out hB2).mono (by have := HB.out.size; have := HBB.out; omega)))
        clear hB2 c1 HP
        have HL1 := Lib.hid (HCL.out n)
        obtain ⟨L, hLL⟩ : ∃ L, covN l n = L := ⟨_, rfl⟩
        have HADD := Lib.hid (fun h => covN_add l n x HXX.out h)
        have HSET := Lib.hid (fun k hk h h2 => covN_set l n x HXX.out k hk h h2)
        have HPT := Lib.hid (HCP.out n (by omega))
        rw [hLL] at HP2 hpick HL1 HADD HSET HPT ⊢
        have hBw := Lib.hid (show B ≤ w2.heap.size by have := HB2.out.size; have := HBB.out; omega)
        clear hLL
        rcases hpick with ⟨k, hk, hno, hyes, rfl⟩ | ⟨hnone, rfl⟩
        · have HCN := Lib.hid (HSET.out k hk hno hyes)
          have hkp := HPT.out L[k] (List.getElem_mem hk)
          have HLK := Lib.hid (show L[k]? = some L[k] from List.getElem?_eq_getElem hk)
          obtain ⟨lk, hlk⟩ : ∃ lk, L[k] = lk := ⟨_, rfl⟩
          obtain ⟨g, cp, s, heq, hs, hc, hf, hrw⟩ := HP2.out.get hk
          cases heq
          rw [hlk] at HCN hkp HLK hrw
          have HROW := Lib.hid hrw
          have HS := Lib.hid hs
          have HGB := Lib.hid (HP2.out.own.lt g rfl)
          have HNL := Lib.hid (show lk.length ≤ 1000000 from hkp.2.1)
          have k0 : (0 : Int) ≤ (k : Int) := by omega
          have hnk : ¬ (k : Int) < 0 := by omega
          have hkl : k < L.length := hk
          clear hno hyes hkp hlk hrw hs hf
          go_wp2_with (first | (at_builtin; refine wpList_append_lies _ rfl _ _ 22 rfl B 3 i0 (.int .i64 0) 1 8 Try.underlying22 hi hz0 hz1 hz2 rfl (by decide) _ _ _ rfl (HROW.out.alloc _) ⟨w2.heap.size, 0, none⟩ 1 1 [.int .i64 n] rfl rfl (news_at _ _ _ _ rfl) (by simp [Value.oneCell']) (by decide) (by have := HNL.out; unfold maxLen; omega) (by have := HNL.out; omega) (by have := hBw.out; simp; omega) (w2.heap.size + 1) (by simp) ?_; intro g5 cap5 w5 ho5 hg5 hk5 hl5; obtain ⟨u1, u2⟩ := Piles.upd (x := (n : Int)) (g' := g5) HP2.out rfl HS.out HLK.out (below_allocP w2 _) hg5 ho5 rfl (hk5.imp id (fun e => by omega)); have hst := (u1.cellAt k (by omega)).trans HS.out; have hfr := u1.frozenAt k; have HU2 := Lib.hid u2; have HB5 := Lib.hid (((HB2.out.alloc hBw.out _).grown hg5 (by have := hBw.out; simp; omega) (fun q hq => (HROW.out.lt q hq).1)).setCell (p := ⟨g, k, none⟩) HGB.out.1 (.slice (some ⟨g5, 0, none⟩) (lk.length + 1) cap5)); clear u1 u2 ho5 hg5 hk5 hl5))
          go_roundw
          case rel => exact ⟨n + 1, _, by omega, by go_num, by rw [HCN.out]; exact HU2.out, HB5.out⟩
          case measure => simp [intOf]; omega
        · have HCN := Lib.hid (HADD.out hnone)
          have HOWN := Lib.hid HP2.out.own
          have hlb : L.length ≤ 1024 := by have := HL1.out; omega
          clear hnone
          go_wp2_with (first | (at_builtin; refine wpList_append_lies _ rfl _ _ 28 rfl B 22 r0 (.slice none 0 0) 1 24 Try.underlying28 hr hy0 hy1 hy2 rfl (by decide) _ _ _ rfl ((HOWN.out.alloc _).alloc _) ⟨w2.heap.size + 1, 0, none⟩ 1 1 [.slice (some ⟨w2.heap.size, 0, none⟩) 1 1] rfl rfl (news_at _ _ _ _ (by simp)) (by simp [Value.oneCell']) (by decide) (by unfold maxLen; omega) (by omega) (by have := hBw.out; simp; omega) (w2.heap.size + 2) (by simp) ?_; intro g5 cap5 w5 ho5 hg5 hk5 hl5; have HP5 := Lib.hid (Piles.add (l := [(n : Int)]) (b := w2.heap.size) HP2.out ((below_allocP w2 _).alloc (by simp) _) ((World.ownsRow_lit (base := B) (e := 3) (size := 1) w2 #[intV n] 1 hBw.out (by unfold maxLen; omega) rfl).alloc _) rfl (Nat.le_refl _) hg5 ho5); have HB5 := Lib.hid (((HB2.out.alloc hBw.out _).alloc (by have := hBw.out; simp; omega) _).grown hg5 (by have := hBw.out; simp; omega) (fun q hq => (HOWN.out.lt q hq).1)); clear ho5 hg5 hk5 hl5))
          go_roundw
          case rel => exact ⟨n + 1, _, by omega, by go_num, by rw [HCN.out]; exact HP5.out, HB5.out⟩
          case measure => simp [intOf]; omega
      · obtain rfl : n = l.length := by omega
        clear hP hB
        go_wp2
        go_ret2
        rw [HE.out]
        exact ⟨_, rfl, HP.out.lists, below_seq HB0.out HB.out (by have := HSA.out; have := HBB.out; omega)⟩
end Go.Proofs.Yteceahbnafaeoaa
