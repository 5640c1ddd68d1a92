/- SequenceRuns: the law's walk. -/
import Derived.Test.YteceahbnafaeoaaSqLongest
namespace Go.Proofs.Yteceahbnafaeoaa
set_option linter.unusedSimpArgs false
set_option linter.unusedVariables false
set_option maxRecDepth 100000
open Go.RowKit Go.Deep

/-- the runs from an index on -/
def runsAt (l : List Int) (k : Nat) : List (List Int) := match l.drop k with | [] => [] | x :: r => rn (k + 1) k x r
/-- a step by 1 to an index -/
def st (l : List Int) (i : Nat) : Bool := decide (0 < i) && decide (at0 l i = at0 l (i - 1 : Nat) + 1)
theorem runsAt_zero (l : List Int) : runsAt l 0 = runsR l := by cases l <;> rfl
theorem rn_head (L : List Int) : ∀ (r : List Int) (i s : Nat) (p : Int), L.drop i = r → 0 < i → s < i → i ≤ L.length → at0 L (i - 1 : Nat) = p →
    ∃ m, i + m ≤ L.length ∧ rn i s p r = [(s : Int), ((i + m : Nat) : Int) - s] :: runsAt L (i + m) ∧ (∀ t, i ≤ t → t < i + m → st L t = true) ∧ (i + m < L.length → st L (i + m) = false)
  | [], i, s, p, hr, hi, hs, hl, hp => by
    have hlen : L.length = i := by
      have := congrArg List.length hr
      rw [List.length_drop, List.length_nil] at this
      omega
    refine ⟨0, by omega, ?_, fun t h1 h2 => by omega, fun h => by omega⟩
    rw [rn, Nat.add_zero]
    unfold runsAt
    rw [hr]
  | y :: r, i, s, p, hr, hi, hs, hl, hp => by
    have hlt : i < L.length := by
      have := congrArg List.length hr
      rw [List.length_drop, List.length_cons] at this
      omega
    have hd := List.drop_eq_getElem_cons hlt
    rw [hr] at hd
    obtain ⟨h1, h2⟩ := List.cons.inj hd
    have hy : at0 L i = y := by rw [at0_get L i hlt, h1]
    have hst : st L i = fol p y := by
      unfold st fol
      rw [decide_eq_true hi, Bool.true_and, hy, hp]
    unfold rn
    by_cases hf : fol p y = true
    · rw [if_pos hf]
      obtain ⟨m, g1, g2, g3, g4⟩ := rn_head L r (i + 1) s y h2.symm (by omega) (by omega) (by omega) (by rw [Nat.add_sub_cancel]; exact hy)
      refine ⟨m + 1, by omega, by rw [g2, show i + 1 + m = i + (m + 1) by omega], fun t t1 t2 => ?_, fun h => ?_⟩
      · by_cases e : t = i
        · subst e; rw [hst]; exact hf
        · exact g3 t (by omega) (by omega)
      · rw [show i + (m + 1) = i + 1 + m by omega]; exact g4 (by omega)
    · rw [if_neg hf]
      refine ⟨0, by omega, ?_, fun t h1 h2 => by omega, fun _ => by rw [Nat.add_zero, hst]; simpa using hf⟩
      simp only [Nat.add_zero]
      unfold runsAt
      rw [hr]
theorem runs_head (L : List Int) (k : Nat) (hk : k < L.length) :
    ∃ n, 1 ≤ n ∧ k + n ≤ L.length ∧ runsAt L k = [(k : Int), (n : Int)] :: runsAt L (k + n) ∧ (∀ t, k < t → t < k + n → st L t = true) ∧ (k + n < L.length → st L (k + n) = false) := by
  have hd := List.drop_eq_getElem_cons hk
  obtain ⟨m, g1, g2, g3, g4⟩ := rn_head L (L.drop (k + 1)) (k + 1) k L[k] rfl (by omega) (by omega) (by omega) (by rw [Nat.add_sub_cancel]; exact at0_get L k hk)
  refine ⟨m + 1, by omega, by omega, ?_, fun t t1 t2 => g3 t (by omega) (by omega), fun h => by rw [show k + (m + 1) = k + 1 + m by omega]; exact g4 (by omega)⟩
  have e : runsAt L k = rn (k + 1) k L[k] (L.drop (k + 1)) := by unfold runsAt; rw [hd]
  rw [e, g2, show k + 1 + m = k + (m + 1) by omega, show ((k + (m + 1) : Nat) : Int) - (k : Int) = ((m + 1 : Nat) : Int) by omega]
theorem runsAt_end (L : List Int) (k : Nat) (hk : L.length ≤ k) : runsAt L k = [] := by
  unfold runsAt
  rw [List.drop_eq_nil_of_le hk]
theorem runs_len (L : List Int) : ∀ d k, L.length - k ≤ d → (runsAt L k).length ≤ d
  | 0, k, h => by rw [runsAt_end L k (by omega)]; simp
  | d + 1, k, h => by
    by_cases hk : k < L.length
    · obtain ⟨n, h1, h2, h3, _⟩ := runs_head L k hk
      rw [h3, List.length_cons]
      have := runs_len L d (k + n) (by omega)
      omega
    · rw [runsAt_end L k (by omega)]; simp
set_option maxHeartbeats 8000000 in
theorem runs_law (H : SqOk) (l : List Int) (v : Value) (w : World) (hv : IntsAt w v l) (hr : R64 l) (hl : l.length ≤ maxLen) :
    Calls Try.prog 9 #[v] w fun e w' => e = .returned (.bool true) ∧ Below w.heap.size w w' := by
  obtain ⟨a, cap, rfl⟩ := hv.slice
  have HV := Lib.hid hv
  by_cases h12 : 12 < l.length
  · clear hv hr
    have hb : decide ((12 : Int) < (l.length : Int)) = true := decide_eq_true (by omega)
    unfold maxLen at hl
    go_enter Try.func9, Try.ntmps9
    go_wp2_with fail
    refine (awake_any H w).mono ?_
    rintro e w1 ⟨rfl, h1⟩
    have B := Lib.hid h1
    clear h1
    go_wp2
    go_ret
    exact ⟨rfl, B.out⟩
  · have hb : decide ((12 : Int) < (l.length : Int)) = false := decide_eq_false (by omega)
    have e1 : runsE l = (runsAt l 0, 0) := by unfold runsE; rw [if_neg (by omega), runsAt_zero]
    have C1 := Lib.hid (H.runs l _ w hv hr hl)
    rw [e1] at C1
    have hrl : (runsAt l 0).length ≤ 12 := runs_len l 12 0 (by omega)
    obtain ⟨r, hrr⟩ : ∃ r, runsAt l 0 = r := ⟨_, rfl⟩
    rw [hrr] at C1 hrl
    have HR0 := Lib.hid hrr
    have HR64 := Lib.hid hr
    have HL12 := Lib.hid h12
    have hl12 : l.length ≤ 12 := by omega
    clear hv hr hl h12 e1 hrr
    have hz : ((0 : Int) != 0) = false := rfl
    go_enter Try.func9, Try.ntmps9
    go_wp2_with fail
    refine C1.out.mono ?_
    rintro e w1 ⟨vr, rfl, hi1, h1⟩
    simp only at hi1
    have HRS := Lib.hid hi1
    have B1 := Lib.hid h1
    obtain ⟨ar, cr, rfl⟩ := hi1.slice
    clear hi1 h1 C1
    go_wp2
    go_loopw [5, 23] (fun at' j wr => ∃ q k : Nat, q ≤ r.length ∧ k ≤ l.length ∧ j = .int .i64 q ∧ at' = .int .i64 k ∧ r.drop q = runsAt l k ∧ (k < l.length → st l k = false) ∧ Below w1.heap.size w1 wr) (fun _ j _ => r.length - (intOf j).toNat)
    case atStart => exact ⟨0, 0, Nat.zero_le _, Nat.zero_le _, rfl, rfl, by rw [HR0.out]; rfl, fun _ => rfl, Below.refl _ _⟩
    case round =>
      obtain ⟨q, k, hq, hk, rfl, rfl, hd, hst, hB⟩ := hrel
      obtain ⟨wk, rfl⟩ : ∃ x, x = wr := ⟨_, rfl⟩
      have HB := Lib.hid hB
      have BK := Lib.hid (below_seq B1.out hB B1.out.size)
      by_cases hlt : q < r.length
      · have hkl : k < l.length := by
          apply Classical.byContradiction
          intro h
          rw [runsAt_end l k (by omega)] at hd
          have := congrArg List.length hd
          rw [List.length_drop, List.length_nil] at this
          omega
        obtain ⟨n, n1, n2, n3, n4, n5⟩ := runs_head l k hkl
        rw [List.drop_eq_getElem_cons hlt, n3] at hd
        obtain ⟨d1, d2⟩ := List.cons.inj hd
        obtain ⟨b, off, u, c, rfl, hbb, c0, c1⟩ := (HRS.out.below hB).elem hlt
        rw [d1] at c0 c1
        obtain ⟨g, go, rfl, hgb, p0⟩ := c1.elem (j := 0) (by simp)
        obtain ⟨g', go', e', _, p1⟩ := c1.elem (j := 1) (by simp)
        cases e'
        simp only [List.getElem_cons_zero, List.getElem_cons_succ, Nat.add_zero, List.length_cons, List.length_nil] at c0 p0 p1
        have HST := Lib.hid (hst hkl)
        have HN4 := Lib.hid n4
        have HN5 := Lib.hid n5
        have HD2 := Lib.hid d2
        have HP1 := Lib.hid (And.intro hgb p1)
        have hq0 : (0 : Int) ≤ (q : Int) := by omega
        have hq1 : (q : Int) < (r.length : Int) := by omega
        have t1 : ((k : Int) != (k : Int)) = false := by simp
        have t2 : decide ((n : Int) < 1) = false := decide_eq_false (by omega)
        have t3 : decide ((l.length : Int) - (k : Int) < (n : Int)) = false := decide_eq_false (by omega)
        have w1' : IntKind.i64.wrap ((l.length : Int) - (k : Int)) = (l.length : Int) - (k : Int) := IntWalk.i64_in _ (by have := HL12.out; omega)
        have hkn : n ≠ 0 := by omega
        clear hd hst hB d1 d2 c1 n3 n4 n5
        obtain ⟨kn, hkn2⟩ : ∃ kn, k + n = kn := ⟨_, rfl⟩
        have w2' : IntKind.i64.wrap ((k : Int) + (n : Int)) = (kn : Int) := by rw [show (k : Int) + (n : Int) = (kn : Int) by omega]; exact IntWalk.i64_in _ (by have := HL12.out; omega)
        have hknl : kn ≤ l.length := by omega
        have hkkn : k < kn := by omega
        rw [hkn2] at HN4 HN5 HD2
        clear n1 n2 hkn2 hkn
        go_wp2
        clear t1 t2 t3 c0 p0 p1 w1' hq0 hq1
        go_loopw [8] (fun i wr => ∃ t : Nat, k ≤ t ∧ t ≤ kn ∧ i = .int .i64 t ∧ Below wk.heap.size wk wr) (fun i _ => kn - (intOf i).toNat)
        case atStart => exact ⟨k, Nat.le_refl _, by omega, rfl, Below.refl _ _⟩
        case round =>
          obtain ⟨t, hkt, htn, rfl, hBi⟩ := hrel
          obtain ⟨wi, rfl⟩ : ∃ x, x = wr := ⟨_, rfl⟩
          have HBI := Lib.hid hBi
          have p1 : wi.cell? ⟨g, go + 1, none⟩ = some (intV n) := (hBi.cell (p := ⟨g, go + 1, none⟩) HP1.out.1).trans HP1.out.2
          by_cases hlt2 : t < kn
          · by_cases h0 : t = 0
            · have hg : ¬ 0 < t := by omega
              have hg3 : decide (k < t) = false := decide_eq_false (by omega)
              have HT0 := Lib.hid h0
              clear hBi h0
              go_wp2_with fail
              go_quiet (fail)
              go_wp2
              go_roundw
              case rel => exact ⟨t + 1, by omega, by omega, by go_num, HBI.out.trans (below_drewN_n _ _ _)⟩
              case measure => simp [intOf]; omega
            · obtain ⟨s, rfl⟩ : ∃ s, t = s + 1 := ⟨t - 1, by omega⟩
              have hsl : s + 1 < l.length := by omega
              have hBB := BK.out.trans (hBi.mono BK.out.size)
              obtain ⟨bl, ol, rfl, hlb, c1⟩ := HV.out.elem hsl
              obtain ⟨bl', ol', e', _, c2⟩ := HV.out.elem (show s < l.length by omega)
              cases e'
              have d1 := (hBB.cell (p := ⟨bl, ol + (s + 1), none⟩) hlb).trans c1
              have d2 := (hBB.cell (p := ⟨bl, ol + s, none⟩) hlb).trans c2
              have hrx := HR64.out l[s + 1] (List.getElem_mem hsl)
              have hry := HR64.out l[s] (List.getElem_mem (show s < l.length by omega))
              have hstv : st l (s + 1) = decide (l[s + 1] = l[s] + 1) := by
                unfold st
                rw [decide_eq_true (by omega), Bool.true_and, Nat.add_sub_cancel, at0_get l (s + 1) hsl, at0_get l s (by omega)]
              obtain ⟨x, hx⟩ : ∃ x, l[s + 1] = x := ⟨_, rfl⟩
              obtain ⟨y, hy⟩ : ∃ y, l[s] = y := ⟨_, rfl⟩
              rw [hx] at d1 hrx hstv
              rw [hy] at d2 hstv hry
              obtain ⟨i, hi⟩ : ∃ i, s + 1 = i := ⟨_, rfl⟩
              have HI := Lib.hid hi
              have hg : 0 < i := by omega
              have hwr : IntKind.i64.wrap ((i : Int) - 1) = (s : Int) := by rw [show (i : Int) - 1 = s by omega]; exact IntWalk.i64_in _ (by have := HL12.out; omega)
              have b1 : (0 : Int) ≤ (i : Int) := by omega
              have b2 : (i : Int) < (l.length : Int) := by omega
              have b3 : (0 : Int) ≤ (s : Int) := by omega
              have b4 : (s : Int) < (l.length : Int) := by omega
              have hin : i < kn := by omega
              rw [hi] at d1 hkt hstv ⊢
              clear hBi hBB c1 c2 hx hy hsl hlb h0 hlt2 htn
              by_cases hki : k < i
              · have hs := HN4.out i hki hin
                rw [hstv, decide_eq_true_eq] at hs
                have q1 : decide (y < x) = true := decide_eq_true (by omega)
                have q2 : IntKind.i64.wrap (x - 1) = x - 1 := IntWalk.i64_in _ (by omega)
                have q3 : (x - 1 == y) = true := by rw [beq_iff_eq]; omega
                clear hi hstv hrx hry hs
                go_wp2_with fail
                go_quiet (fail)
                clear q1 q2 q3 d1 d2 hwr b1 b2 b3 b4
                go_wp2
                go_roundw
                case rel => exact ⟨i + 1, by omega, by omega, by go_num, HBI.out.trans (below_drewN_n _ _ _)⟩
                case measure => simp [intOf]; omega
              · obtain rfl : i = k := by omega
                have hs := HST.out
                rw [hstv, decide_eq_false_iff_not] at hs
                by_cases hyx : y < x
                · have q1 : decide (y < x) = true := decide_eq_true hyx
                  have q2 : IntKind.i64.wrap (x - 1) = x - 1 := IntWalk.i64_in _ (by omega)
                  have q3 : (x - 1 == y) = false := by rw [beq_eq_false_iff_ne]; omega
                  clear hi hstv hrx hry hs
                  go_wp2_with fail
                  go_quiet (fail)
                  clear q1 q2 q3 d1 d2 hwr b1 b2 b3 b4
                  go_wp2
                  go_roundw
                  case rel => exact ⟨i + 1, by omega, by omega, by go_num, HBI.out.trans (below_drewN_n _ _ _)⟩
                  case measure => simp [intOf]; omega
                · have q1 : decide (y < x) = false := decide_eq_false hyx
                  clear hi hstv hrx hry hs
                  go_wp2_with fail
                  go_quiet (fail)
                  clear q1 d1 d2 hwr b1 b2 b3 b4
                  go_wp2
                  go_roundw
                  case rel => exact ⟨i + 1, by omega, by omega, by go_num, HBI.out.trans (below_drewN_n _ _ _)⟩
                  case measure => simp [intOf]; omega
          · obtain rfl : t = kn := by omega
            have BQ := Lib.hid (HB.out.trans (HBI.out.mono HB.out.size))
            clear hBi
            go_wp2
            go_roundw
            case rel => exact ⟨q + 1, t, by omega, by omega, by go_num, by go_num, HD2.out, HN5.out, BQ.out⟩
            case measure => simp [intOf]; omega
      · obtain rfl : q = r.length := by omega
        have hke : k = l.length := by
          apply Classical.byContradiction
          intro h
          obtain ⟨n, _, _, n3, _⟩ := runs_head l k (by omega)
          rw [List.drop_length, n3] at hd
          cases hd
        subst hke
        have hkk : ((l.length : Int) == (l.length : Int)) = true := by simp
        clear hB hd
        go_wp2_with fail
        refine (awake_any H wk).mono ?_
        rintro e w2 ⟨rfl, h2⟩
        have B2 := Lib.hid (below_then BK.out h2)
        clear h2
        go_wp2
        go_ret
        exact ⟨rfl, B2.out⟩
end Go.Proofs.Yteceahbnafaeoaa
