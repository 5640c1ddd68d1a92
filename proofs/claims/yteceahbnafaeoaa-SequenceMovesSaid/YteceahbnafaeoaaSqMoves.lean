/- SequenceMoves: the law's walk. -/
import Derived.Test.YteceahbnafaeoaaSqAwake
import Derived.Test.YteceahbnafaeoaaSqMove
namespace Go.Proofs.Yteceahbnafaeoaa
set_option linter.unusedSimpArgs false
set_option linter.unusedVariables false
set_option maxRecDepth 100000
open Go.RowKit Go.Deep

theorem moved_perm (l : List Int) (i k : Nat) (hi : i < l.length) : (moved l i k l[i]).Perm l := by
  have e : l = l.take i ++ l[i] :: l.drop (i + 1) := by rw [List.getElem_cons_drop, List.take_append_drop]
  have ed : l.eraseIdx i = l.take i ++ l.drop (i + 1) := List.eraseIdx_eq_take_drop_succ l i
  have h1 : (moved l i k l[i]).Perm (l[i] :: l.eraseIdx i) := by
    unfold moved
    have := List.perm_middle (a := l[i]) (l₁ := (l.eraseIdx i).take k) (l₂ := (l.eraseIdx i).drop k)
    rwa [List.take_append_drop] at this
  have h2 : l.Perm (l[i] :: l.eraseIdx i) := by
    have := List.perm_middle (a := l[i]) (l₁ := l.take i) (l₂ := l.drop (i + 1))
    rw [← e, ← ed] at this
    exact this
  exact h1.trans h2.symm
theorem permB_perm {a b : List Int} (h : a.Perm b) (hb : permB b = true) : permB a = true := by
  unfold permB at hb ⊢
  rw [Bool.and_eq_true, List.all_eq_true, decide_eq_true_eq] at hb ⊢
  refine ⟨fun x hx => ?_, h.nodup_iff.2 hb.2⟩
  have := hb.1 x (h.mem_iff.1 hx)
  unfold inB at this ⊢
  rw [h.length_eq]; exact this
theorem r64_perm {a b : List Int} (h : a.Perm b) (hb : R64 b) : R64 a := fun x hx => hb x (h.mem_iff.1 hx)
set_option maxHeartbeats 4000000 in
theorem moves_law (H : SqOk) (l : List Int) (v : Value) (w : World) (f t : Nat) (hf : f ≤ 255) (ht : t ≤ 255) (hv : IntsAt w v l) (hr : R64 l) (hl : l.length ≤ maxLen) :
    Calls Try.prog 10 #[v, .int .u8 f, .int .u8 t] w fun e w' => e = .returned (.bool true) ∧ Below w.heap.size w w' := by
  obtain ⟨a, cap, rfl⟩ := hv.slice
  have HV := Lib.hid hv
  by_cases h12 : 12 < l.length
  · clear hv hr
    have hb : decide ((12 : Int) < (l.length : Int)) = true := decide_eq_true (by omega)
    unfold maxLen at hl
    go_enter Try.func10, Try.ntmps10
    go_wp2_with fail
    refine (awake_any H w).mono ?_
    rintro e w1 ⟨rfl, h1⟩
    have B := Lib.hid h1
    clear h1
    go_wp2
    go_ret
    exact ⟨rfl, B.out⟩
  · have hb : decide ((12 : Int) < (l.length : Int)) = false := decide_eq_false (by omega)
    by_cases h0 : l.length = 0
    · have hz : ((l.length : Int) == 0) = true := by rw [h0]; rfl
      clear hv hr h12
      go_enter Try.func10, Try.ntmps10
      go_wp2_with fail
      refine (awake_any H w).mono ?_
      rintro e w1 ⟨rfl, h1⟩
      have B := Lib.hid h1
      clear h1
      go_wp2
      go_ret
      exact ⟨rfl, B.out⟩
    · have hz : ((l.length : Int) == 0) = false := by rw [beq_eq_false_iff_ne]; omega
      obtain ⟨p, hp⟩ : ∃ p, permB l = p := ⟨_, rfl⟩
      have CR := Lib.hid (refPerm_any l (by omega) _ w hv p hp)
      cases p with
      | false =>
        clear hv hr h12 h0 hp
        go_enter Try.func10, Try.ntmps10
        go_wp2_with fail
        refine CR.out.mono ?_
        rintro e w1 ⟨rfl, h1⟩
        have B1 := Lib.hid h1
        clear h1
        go_wp2_with fail
        refine (awake_any H w1).mono ?_
        rintro e w2 ⟨rfl, h2⟩
        have B := Lib.hid (below_then B1.out h2)
        clear h2
        go_wp2
        go_ret
        exact ⟨rfl, B.out⟩
      | true =>
        obtain ⟨i, hi⟩ : ∃ i, f % l.length = i := ⟨_, rfl⟩
        obtain ⟨k, hk⟩ : ∃ k, t % l.length = k := ⟨_, rfl⟩
        have hil : i < l.length := by rw [← hi]; exact Nat.mod_lt _ (by omega)
        have hkl : k < l.length := by rw [← hk]; exact Nat.mod_lt _ (by omega)
        have hti : (f : Int).tmod (l.length : Int) = (i : Int) := by rw [← hi]; rfl
        have htk : (t : Int).tmod (l.length : Int) = (k : Int) := by rw [← hk]; rfl
        have hPM := moved_perm l i k hil
        have hmm := permB_perm hPM hp
        have hrm := r64_perm hPM hr
        have hlm : (moved l i k l[i]).length = l.length := moved_len l i k hil hkl _
        obtain ⟨m1, m2⟩ := mov_moved l i k hil hkl
        have hmlt := mov_lt (l := l) (by omega)
        have e1 : movE l = ((movR l : Int), 0) := by unfold movE; rw [if_neg (by omega), hp]; rfl
        have e2 : movE (moved l i k l[i]) = ((movR (moved l i k l[i]) : Int), 0) := by unfold movE; rw [if_neg (by omega), hmm]; rfl
        have C1 := Lib.hid (fun W h => H.moves l (.slice a l.length cap) W h hr hl)
        have C2 := Lib.hid (fun (u : Value) (W : World) (h : IntsAt W u (moved l i k l[i])) => H.moves (moved l i k l[i]) u W h hrm (by rw [hlm]; exact hl))
        have CP := Lib.hid (fun W h => H.perm l (.slice a l.length cap) W h hr (by omega))
        rw [e1] at C1
        rw [e2] at C2
        rw [hp] at CP
        obtain ⟨n, hn⟩ : ∃ n, movR l = n := ⟨_, rfl⟩
        obtain ⟨m, hm⟩ : ∃ m, movR (moved l i k l[i]) = m := ⟨_, rfl⟩
        obtain ⟨s, hs⟩ : ∃ s, srtB l = s := ⟨_, rfl⟩
        have CS := Lib.hid (fun W h => sorted_any l s hs (.slice a l.length cap) W h (by omega))
        have hns : ((n : Int) == 0) = s := by
          have h1 := mov_zero (perm_nodup hp)
          have h2 := srt_iff l
          rw [hn] at h1
          rw [hs] at h2
          rw [Bool.eq_iff_iff, beq_iff_eq]
          rw [← h1] at h2
          rw [h2]
          omega
        rw [hn] at C1 hmlt m1 m2
        rw [hm] at C2 m1 m2
        have CCL := Lib.hid (fun W h => clone_any l (by omega) (.slice a l.length cap) W h)
        have CD := Lib.hid (fun B u W h => delete_any l (by omega) i hil B u W h)
        have CI := Lib.hid (fun g cap' vb W h1 h2 h3 h4 B h5 => insert_any g cap' l.length (l.eraseIdx i) k hkl (l[i]'hil) vb W h1 h2 h3 h4 B h5)
        have HM := Lib.hid (show moved l i k l[i] = (l.eraseIdx i).take k ++ l[i] :: (l.eraseIdx i).drop k from rfl)
        rw [← HM.out] at CI
        obtain ⟨b, off, rfl, hbb, c0⟩ := HV.out.elem hil
        obtain ⟨ML, hML⟩ : ∃ ML, moved l i k l[i] = ML := ⟨_, rfl⟩
        rw [hML] at C2 CI
        obtain ⟨x, hx⟩ : ∃ x, l[i] = x := ⟨_, rfl⟩
        rw [hx] at CI c0
        have HC0 := Lib.hid (And.intro hbb c0)
        have q1 : decide ((n : Int) < 0) = false := decide_eq_false (by omega)
        have q1' : decide ((0 : Int) ≤ (n : Int)) = true := decide_eq_true (by omega)
        have q2 : decide ((n : Int) < (l.length : Int)) = true := decide_eq_true (by omega)
        have q3 : decide ((m : Int) ≤ (n : Int) + 1) = true := decide_eq_true (by omega)
        have q4 : decide ((n : Int) ≤ (m : Int) + 1) = true := decide_eq_true (by omega)
        have w1' : IntKind.i64.wrap ((n : Int) + 1) = (n : Int) + 1 := IntWalk.i64_in _ (by omega)
        have w2' : IntKind.i64.wrap ((m : Int) + 1) = (m : Int) + 1 := IntWalk.i64_in _ (by omega)
        have w3' : IntKind.i64.wrap ((i : Int) + 1) = ((i + 1 : Nat) : Int) := by rw [show (i : Int) + 1 = ((i + 1 : Nat) : Int) by omega]; exact IntWalk.i64_in _ (by omega)
        have hln : (l.length : Int) ≠ 0 := by omega
        have hi0 : (0 : Int) ≤ (i : Int) := by omega
        have hi1 : (i : Int) < (l.length : Int) := by omega
        clear hv hr hl h12 h0 hp hi hk hPM hmm hrm hlm e1 e2 hs hn hm hML hx m1 m2 HM hbb c0
        go_enter Try.func10, Try.ntmps10
        go_wp2_with fail
        refine CR.out.mono ?_
        rintro e w1 ⟨rfl, h1⟩
        have B1 := Lib.hid h1
        clear h1 CR
        go_wp2_with fail
        refine (C1.out w1 (HV.out.below B1.out)).mono ?_
        rintro e w2 ⟨rfl, h2⟩
        have B2 := Lib.hid (below_then B1.out h2)
        clear h2 C1
        go_wp2_with fail
        go_quiet (fail)
        have BQ := Lib.hid (below_then B2.out (below_drewN w2 nq))
        obtain ⟨w3, hw3⟩ : ∃ x, w2.drewN nq = x := ⟨_, rfl⟩
        rw [hw3] at BQ ⊢
        clear hw3 hti htk hln
        go_wp2_with fail
        refine (CCL.out w3 (HV.out.below BQ.out)).mono ?_
        rintro e w4 ⟨u, rfl, ho, h4⟩
        have HO := Lib.hid ho
        have B4 := Lib.hid (below_then BQ.out h4)
        have B34 := Lib.hid h4
        clear ho h4 CCL
        go_wp2_with fail
        refine (CD.out w3.heap.size u w4 HO.out).mono ?_
        rintro e w5 ⟨g, cg, rfl, hroom, hbg, h5⟩
        have HRM := Lib.hid hroom
        have B5 := Lib.hid (below_seq BQ.out (B34.out.trans h5) BQ.out.size)
        have hci : w5.cell? ⟨b, off + i, none⟩ = some (intV x) := (B5.out.cell (p := ⟨b, off + i, none⟩) HC0.out.1).trans HC0.out.2
        have HBG := Lib.hid (Nat.le_trans BQ.out.size hbg)
        clear hroom h5 hbg CD
        go_wp2_with fail
        clear hci
        have hA := alloc_below w5 (i1 x)
        have hne : w5.heap.size ≠ g := by have := HRM.out.lt; omega
        refine (CI.out g cg w5.heap.size (w5.alloc (i1 x)) (HRM.out.below hA) hne (by simp [i1]) (fun j => World.frozen?_alloc_new w5 #[intV x] 3 j) w.heap.size HBG.out).mono ?_
        rintro e w6 ⟨rfl, hi6, h6⟩
        have HI6 := Lib.hid hi6
        have B6 := Lib.hid ((B5.out.alloc B5.out.size (i1 x)).trans h6)
        clear hA hne hi6 h6 CI
        go_wp2_with fail
        refine (C2.out _ w6 HI6.out).mono ?_
        rintro e w7 ⟨rfl, h7⟩
        have B7 := Lib.hid (below_then B6.out h7)
        clear h7 C2
        go_wp2_with fail
        refine (CP.out w7 (HV.out.below B7.out)).mono ?_
        rintro e w8 ⟨rfl, h8⟩
        have B8 := Lib.hid (below_then B7.out h8)
        clear h8 CP
        go_wp2_with fail
        refine (CS.out w8 (HV.out.below B8.out)).mono ?_
        rintro e w9 ⟨rfl, h9⟩
        have B9 := Lib.hid (below_then B8.out h9)
        clear h9 CS
        have hss : (s == s) = true := by simp
        go_wp2_with fail
        refine (awake_any H w9).mono ?_
        rintro e w10 ⟨rfl, h10⟩
        have B10 := Lib.hid (below_then B9.out h10)
        clear h10
        go_wp2
        go_ret
        exact ⟨rfl, B10.out⟩
end Go.Proofs.Yteceahbnafaeoaa
