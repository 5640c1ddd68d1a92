/- The reference's Cover. -/
import Derived.Test.YteceahbnafaeoaaSpCoverW
namespace Go.Proofs.Yteceahbnafaeoaa
set_option linter.unusedSimpArgs false
set_option linter.unusedVariables false
set_option maxRecDepth 100000
open Go.RowKit Go.Deep

/-- which list takes an element, of those from kk on -/
def PickFrom (P : List Int → Bool) (L : List (List Int)) (kk : Nat) (r : Int) : Prop :=
  (∃ (j : Nat) (hj : j < L.length), kk ≤ j ∧ (∀ (i : Nat) (hi : i < j), kk ≤ i → P (L[i]'(Nat.lt_trans hi hj)) = false) ∧ P L[j] = true ∧ r = j) ∨ ((∀ (i : Nat) (hi : i < L.length), kk ≤ i → P L[i] = false) ∧ r = -1)
theorem PickFrom.done {P : List Int → Bool} {L : List (List Int)} {r : Int} (h : PickFrom P L 0 r) : PickPost P L r := by
  rcases h with ⟨j, hj, _, h1, h2, h3⟩ | ⟨h1, h2⟩
  · exact .inl ⟨j, hj, fun i hi => h1 i hi (Nat.zero_le _), h2, h3⟩
  · refine .inr ⟨fun p hp => ?_, h2⟩
    obtain ⟨j, hj, rfl⟩ := List.getElem_of_mem hp
    exact h1 j hj (Nat.zero_le _)
theorem PickFrom.yes {P : List Int → Bool} {L : List (List Int)} {q : Nat} (hq : q < L.length) (h : P L[q] = true) : PickFrom P L q q :=
  .inl ⟨q, hq, Nat.le_refl _, fun i hi h2 => by omega, h, rfl⟩
theorem PickFrom.no {P : List Int → Bool} {L : List (List Int)} {q : Nat} {r : Int} (hq : q < L.length) (h : P L[q] = false) (hp : PickFrom P L (q + 1) r) : PickFrom P L q r := by
  rcases hp with ⟨j, hj, hk, h1, h2, h3⟩ | ⟨h1, h2⟩
  · refine .inl ⟨j, hj, by omega, fun i hi hqi => ?_, h2, h3⟩
    rcases Nat.lt_or_ge q i with hlt | hge
    · exact h1 i hi hlt
    · obtain rfl : i = q := by omega
      exact h
  · refine .inr ⟨fun i hi hqi => ?_, h2⟩
    rcases Nat.lt_or_ge q i with hlt | hge
    · exact h1 i hi hlt
    · obtain rfl : i = q := by omega
      exact h
set_option maxHeartbeats 4000000 in
theorem refCover_any (l : List Int) (hl12 : l.length ≤ 12 ∨ 1024 < l.length) (hlm : l.length ≤ 1000000) (v : Value) (w : World) (hv : IntsAt w v l) : Calls Try.prog 16 #[v] w (ListsPost (covE l) w) := by
  have HLI := Lib.hid hv
  obtain ⟨a, cap, rfl⟩ := hv.slice
  by_cases h1 : 1024 < l.length
  · have t1 : decide ((1024 : Int) < (l.length : Int)) = true := decide_eq_true (by omega)
    have e : covE l = ([], 4) := by unfold covE; rw [if_pos h1]
    rw [e]
    clear hv e
    go_enter Try.func16, Try.ntmps16
    go_wp2
    go_ret2
    exact ⟨_, rfl, ⟨none, 0, rfl, fun h => absurd h (by simp)⟩, Below.refl _ _⟩
  · have t1 : decide ((1024 : Int) < (l.length : Int)) = false := decide_eq_false (by omega)
    have hl : l.length ≤ 12 := by omega
    have HE := Lib.hid (show covE l = (covN l l.length, 0) by unfold covE; rw [if_neg h1]; rfl)
    have HCP := Lib.hid (fun n hn => covN_parts l n hn (by omega))
    have HCL := Lib.hid (covN_len l)
    obtain ⟨i0, hi, hz0, hz1, hz2⟩ := info_parts info_int
    obtain ⟨r0, hr, hy0, hy1, hy2⟩ := info_parts info_rows
    obtain ⟨wA, rfl⟩ : ∃ x, x = w := ⟨_, rfl⟩
    have HE0 := Lib.hid (World.ownsRow_lit (base := wA.heap.size) (e := 22) (size := 1) wA #[] 0 (Nat.le_refl _) (Nat.zero_le _) rfl)
    have HB0 := Lib.hid (below_allocP wA (.cells #[] 22))
    clear hv h1 hl12 hlm
    go_enter Try.func16, Try.ntmps16
    go_wp2
    obtain ⟨B, hBB⟩ : ∃ B, wA.heap.size = B := ⟨_, rfl⟩
    rw [hBB] at HE0 HB0 ⊢
    have HBB := Lib.hid hBB
    clear hBB
    go_loopw [4, 5] (fun cv iv wr => ∃ (n : Nat) (sl : List Value), n ≤ l.length ∧ iv = .int .i64 n ∧ Piles wr B cv sl (covN l n) ∧ Below B wA wr) (fun _ iv _ => l.length - (intOf iv).toNat)
    case atStart => exact ⟨0, [], Nat.zero_le _, rfl, Piles.of_empty HE0.out, HB0.out⟩
    case round =>
      obtain ⟨n, sl, hn, rfl, hP, hB⟩ := hrel
      obtain ⟨wk, rfl⟩ : ∃ x, x = wr := ⟨_, rfl⟩
      have HP := Lib.hid hP
      have HB := Lib.hid hB
      obtain ⟨av, cv, rfl⟩ := hP.slice
      by_cases hlt : n < l.length
      · have HBk := Lib.hid (show Below wA.heap.size wA wk by rw [HBB.out]; exact hB)
        have hcl := HCL.out n
        have HXX := Lib.hid (at0_get l n hlt)
        have HLS := Lib.hid hP.lists
        obtain ⟨L0, hL0⟩ : ∃ L0, covN l n = L0 := ⟨_, rfl⟩
        have HL0 := Lib.hid hL0
        have HPT0 := Lib.hid (HCP.out n (by omega))
        rw [hL0] at HP HLS HPT0 hcl ⊢
        obtain ⟨L0n, hLn⟩ : ∃ k, L0.length = k := ⟨_, rfl⟩
        have HLN := Lib.hid hLn
        rw [hLn] at hcl ⊢
        have hwr : IntKind.i64.wrap ((L0n : Int) - 1) = (L0n : Int) - 1 := IntWalk.i64_in _ (by omega)
        obtain ⟨b, off, rfl, hbb, c0⟩ := HLI.out.elem hlt
        obtain ⟨x, hx⟩ : ∃ x, l[n] = x := ⟨_, rfl⟩
        rw [hx] at c0 HXX
        have HC0 := Lib.hid (And.intro hbb c0)
        have n0 : (0 : Int) ≤ (n : Int) := by omega
        have n1 : (n : Int) < (l.length : Int) := by omega
        clear hP hB c0 hbb hx hL0 hLn
        go_wp2
        go_loopw [6, 7] (fun rv kv wr => ∃ (kk : Nat) (r : Int), kk ≤ L0n ∧ kv = .int .i64 ((kk : Int) - 1) ∧ rv = .int .i64 r ∧ PickFrom (takes l x) L0 kk r ∧ Below wk.heap.size wk wr) (fun _ kv _ => (intOf kv + 1).toNat)
        case atStart => exact ⟨L0n, -1, Nat.le_refl _, by go_num, rfl, .inr ⟨fun i hi h => by have := HLN.out; omega, rfl⟩, Below.refl _ _⟩
        case round =>
          obtain ⟨kk, r, hkk, rfl, rfl, hpf, hB2⟩ := hrel
          obtain ⟨w2, rfl⟩ : ∃ x, x = wr := ⟨_, rfl⟩
          have HPF := Lib.hid hpf
          have HB2 := Lib.hid hB2
          by_cases hk0 : kk = 0
          · subst hk0
            have hpick := HPF.out.done
            have HP2 := Lib.hid (HP.out.below hB2)
            have HB2 := Lib.hid (HB.out.trans (hB2.mono (by have := HB.out.size; have := HBB.out; omega)))
            obtain rfl := HL0.out
            obtain rfl := HLN.out
            clear hpf hB2 HP HLS HPT0 HPF
            have hge : ¬ (0 : Int) ≤ ((0 : Nat) : Int) - 1 := by omega
            have HL1 := Lib.hid (HCL.out n)
            obtain ⟨L, hLL⟩ : ∃ L, covN l n = L := ⟨_, rfl⟩
            have HADD := Lib.hid (fun h => covN_add l n x HXX.out h)
            have HSET := Lib.hid (fun k hk h h2 => covN_set l n x HXX.out k hk h h2)
            have HPT := Lib.hid (HCP.out n (by omega))
            rw [hLL] at HP2 hpick HL1 HADD HSET HPT ⊢
            have hBw := Lib.hid (show B ≤ w2.heap.size by have := HB2.out.size; have := HBB.out; omega)
            clear hLL
            rcases hpick with ⟨k, hk, hno, hyes, rfl⟩ | ⟨hnone, rfl⟩
            · have HCN := Lib.hid (HSET.out k hk hno hyes)
              have hkp := HPT.out L[k] (List.getElem_mem hk)
              have HLK := Lib.hid (show L[k]? = some L[k] from List.getElem?_eq_getElem hk)
              obtain ⟨lk, hlk⟩ : ∃ lk, L[k] = lk := ⟨_, rfl⟩
              obtain ⟨g, cp, s, heq, hs, hc, hf, hrw⟩ := HP2.out.get hk
              cases heq
              rw [hlk] at HCN hkp HLK hrw
              have HROW := Lib.hid hrw
              have HS := Lib.hid hs
              have HGB := Lib.hid (HP2.out.own.lt g rfl)
              have HNL := Lib.hid (show lk.length ≤ 1000000 from hkp.2.1)
              have k0 : (0 : Int) ≤ (k : Int) := by omega
              have hnk : ¬ (k : Int) < 0 := by omega
              have hkl : k < L.length := hk
              clear hno hyes hkp hlk hrw hs hf
              go_wp2_with (first | (at_builtin; refine wpList_append_lies _ rfl _ _ 22 rfl B 3 i0 (.int .i64 0) 1 8 Try.underlying22 hi hz0 hz1 hz2 rfl (by decide) _ _ _ rfl (HROW.out.alloc _) ⟨w2.heap.size, 0, none⟩ 1 1 [.int .i64 n] rfl rfl (news_at _ _ _ _ rfl) (by simp [Value.oneCell']) (by decide) (by have := HNL.out; unfold maxLen; omega) (by have := HNL.out; omega) (by have := hBw.out; simp; omega) (w2.heap.size + 1) (by simp) ?_; intro g5 cap5 w5 ho5 hg5 hk5 hl5; obtain ⟨u1, u2⟩ := Piles.upd (x := (n : Int)) (g' := g5) HP2.out rfl HS.out HLK.out (below_allocP w2 _) hg5 ho5 rfl (hk5.imp id (fun e => by omega)); have hst := (u1.cellAt k (by omega)).trans HS.out; have hfr := u1.frozenAt k; have HU2 := Lib.hid u2; have HB5 := Lib.hid (((HB2.out.alloc hBw.out _).grown hg5 (by have := hBw.out; simp; omega) (fun q hq => (HROW.out.lt q hq).1)).setCell (p := ⟨g, k, none⟩) HGB.out.1 (.slice (some ⟨g5, 0, none⟩) (lk.length + 1) cap5)); clear u1 u2 ho5 hg5 hk5 hl5))
              go_roundw
              case rel => exact ⟨n + 1, _, by omega, by go_num, by rw [HCN.out]; exact HU2.out, HB5.out⟩
              case measure => simp [intOf]; omega
            · have HCN := Lib.hid (HADD.out hnone)
              have HOWN := Lib.hid HP2.out.own
              have hlb : L.length ≤ 1024 := by have := HL1.out; omega
              clear hnone
              go_wp2_with (first | (at_builtin; refine wpList_append_lies _ rfl _ _ 28 rfl B 22 r0 (.slice none 0 0) 1 24 Try.underlying28 hr hy0 hy1 hy2 rfl (by decide) _ _ _ rfl ((HOWN.out.alloc _).alloc _) ⟨w2.heap.size + 1, 0, none⟩ 1 1 [.slice (some ⟨w2.heap.size, 0, none⟩) 1 1] rfl rfl (news_at _ _ _ _ (by simp)) (by simp [Value.oneCell']) (by decide) (by unfold maxLen; omega) (by omega) (by have := hBw.out; simp; omega) (w2.heap.size + 2) (by simp) ?_; intro g5 cap5 w5 ho5 hg5 hk5 hl5; have HP5 := Lib.hid (Piles.add (l := [(n : Int)]) (b := w2.heap.size) HP2.out ((below_allocP w2 _).alloc (by simp) _) ((World.ownsRow_lit (base := B) (e := 3) (size := 1) w2 #[intV n] 1 hBw.out (by unfold maxLen; omega) rfl).alloc _) rfl (Nat.le_refl _) hg5 ho5); have HB5 := Lib.hid (((HB2.out.alloc hBw.out _).alloc (by have := hBw.out; simp; omega) _).grown hg5 (by have := hBw.out; simp; omega) (fun q hq => (HOWN.out.lt q hq).1)); clear ho5 hg5 hk5 hl5))
              go_roundw
              case rel => exact ⟨n + 1, _, by omega, by go_num, by rw [HCN.out]; exact HP5.out, HB5.out⟩
              case measure => simp [intOf]; omega
          · obtain ⟨q, rfl⟩ : ∃ q, kk = q + 1 := ⟨kk - 1, by omega⟩
            have hq : q < L0.length := by have := HLN.out; omega
            obtain ⟨b3, off3, u, c, e3, hb3, c3, hu⟩ := (show ListsAt wk (.slice av L0.length cv) L0 by have h := HLS.out; rw [HLN.out] at h ⊢; exact h).elem hq
            subst e3
            obtain ⟨p1, p2, p3⟩ := HPT0.out L0[q] (List.getElem_mem hq)
            have HYES := Lib.hid (fun h => PickFrom.yes (P := takes l x) hq h)
            have HNO := Lib.hid (fun h => PickFrom.no (P := takes l x) hq h HPF.out)
            obtain ⟨P, hPP⟩ : ∃ P, L0[q] = P := ⟨_, rfl⟩
            rw [hPP] at c3 hu p1 p2 p3 HYES HNO
            obtain ⟨t, ht⟩ : ∃ t, P.length = t + 1 := ⟨P.length - 1, by omega⟩
            have htl : t < P.length := by omega
            obtain ⟨b4, off4, e4, hb4, c4⟩ := hu.elem htl
            subst e4
            have hlx := last_ix p1
            have hqq : P[P.length - 1] = P[t] := by congr 1; omega
            rw [hqq] at hlx
            obtain ⟨z, hz, hzz⟩ := in_nat p3
            rw [hzz] at hlx
            rw [← hlx] at c4
            obtain ⟨b5, off5, e5, hb5, c5⟩ := HLI.out.elem hz
            cases e5
            have htk : takes l x P = decide (x ≤ l[z]) := by unfold takes; rw [hzz, at0_get l z hz]
            obtain ⟨y, hy⟩ : ∃ y, l[z] = y := ⟨_, rfl⟩
            rw [hy] at c5 htk
            have d3 := (hB2.cell (p := ⟨b3, off3 + q, none⟩) hb3).trans c3
            have d4 := (hB2.cell (p := ⟨b4, off4 + t, none⟩) hb4).trans c4
            have d5 := (hB2.cell (p := ⟨b, off + z, none⟩) (Nat.lt_of_lt_of_le hb5 HBk.out.size)).trans ((HBk.out.cell (p := ⟨b, off + z, none⟩) hb5).trans c5)
            have d0 := (hB2.cell (p := ⟨b, off + n, none⟩) (Nat.lt_of_lt_of_le HC0.out.1 HBk.out.size)).trans ((HBk.out.cell (p := ⟨b, off + n, none⟩) HC0.out.1).trans HC0.out.2)
            obtain ⟨mm, hmm⟩ : ∃ mm, P.length = mm := ⟨_, rfl⟩
            rw [hmm] at d3 ht htl
            have hwt : IntKind.i64.wrap ((mm : Int) - 1) = (t : Int) := by rw [show (mm : Int) - 1 = (t : Int) by omega]; exact IntWalk.i64_in _ (by omega)
            have HTK := Lib.hid htk
            have e0 : ((q + 1 : Nat) : Int) - 1 = (q : Int) := by omega
            rw [e0]
            have q0 : (0 : Int) ≤ (q : Int) := by omega
            have q1 : (q : Int) < (L0n : Int) := by omega
            have t0 : (0 : Int) ≤ (t : Int) := by omega
            have t1' : (t : Int) < (mm : Int) := by omega
            have z0 : (0 : Int) ≤ (z : Int) := by omega
            have z1 : (z : Int) < (l.length : Int) := by omega
            have hqb : q ≤ 12 := by omega
            have HBD := Lib.hid (fun j => HB2.out.trans (below_drewN_n wk.heap.size w2 j))
            clear hpf hB2 hq hu c3 c4 c5 hb3 hb4 hb5 p1 p2 p3 hPP ht htl hlx hqq hzz htk hy hmm hk0 e0 hz
            by_cases hyx : x ≤ y
            · have hd : decide (x ≤ y) = true := decide_eq_true hyx
              go_wp2_with fail
              go_quiet (fail)
              go_wp2
              go_roundw
              case rel => exact ⟨q, q, by omega, by go_num, rfl, HYES.out (by rw [HTK.out]; exact decide_eq_true hyx), HBD.out _⟩
              case measure => simp [intOf] <;> omega
            · have hd : decide (x ≤ y) = false := decide_eq_false hyx
              go_wp2_with fail
              go_quiet (fail)
              go_wp2
              go_roundw
              case rel => exact ⟨q, r, by omega, by go_num, rfl, HNO.out (by rw [HTK.out]; exact decide_eq_false (by omega)), HBD.out _⟩
              case measure => simp [intOf] <;> omega
      · obtain rfl : n = l.length := by omega
        clear hP hB
        go_wp2
        go_ret2
        rw [HE.out]
        exact ⟨_, rfl, HP.out.lists, by rw [← HBB.out] at HB; exact HB.out⟩
end Go.Proofs.Yteceahbnafaeoaa
