/- The walk of EditdistanceApplied. -/
import Derived.Test.YtbdeakodmhcgdaaEdLongs
namespace Go.Proofs.Ytbdeakodmhcgdaa
set_option linter.unusedSimpArgs false
set_option linter.unusedVariables false
set_option maxRecDepth 100000
open Go.RowKit Go.Deep

/-! ### what good edits do -/
theorem fit_bad (n : Nat) : ∀ (es : List EdV) (at_ : Nat), badE n at_ es = 0 → fitE n at_ (es.map EdV.plain) ∧ ∀ e ∈ es, ∃ (p l : Nat) (t : ByteArray), e = ⟨p, l, t⟩ ∧ l ≤ n
  | [], _, _ => ⟨trivial, fun e h => absurd h (by simp)⟩
  | e :: es, at_, h => by
    rw [badE] at h
    by_cases c1 : e.place < 0 ∨ e.len < 0 ∨ (n : Int) < e.place ∨ (n : Int) - e.place < e.len
    · rw [if_pos c1] at h; omega
    · rw [if_neg c1] at h
      by_cases c2 : e.place < (at_ : Int)
      · rw [if_pos c2] at h; omega
      · rw [if_neg c2] at h
        obtain ⟨f1, f2⟩ := fit_bad n es _ h
        refine ⟨⟨?_, ?_, f1⟩, fun x hx => ?_⟩
        · show at_ ≤ e.place.toNat; omega
        · show e.place.toNat + e.len.toNat ≤ n; omega
        · rcases List.mem_cons.1 hx with rfl | hx
          · refine ⟨x.place.toNat, x.len.toNat, x.text, ?_, by omega⟩
            obtain ⟨p, l, t⟩ := x
            rw [EdV.mk.injEq]
            refine ⟨?_, ?_, rfl⟩
            · show p = ((p.toNat : Nat) : Int)
              have : ¬ p < 0 := fun h => c1 (.inl h)
              omega
            · show l = ((l.toNat : Nat) : Int)
              have : ¬ l < 0 := fun h => c1 (.inr (.inl h))
              omega
          · exact f2 x hx
theorem bad_vals (n : Nat) : ∀ (es : List EdV) (at_ : Nat), badE n at_ es = 0 ∨ badE n at_ es = 2 ∨ badE n at_ es = 10
  | [], _ => .inl rfl
  | e :: es, at_ => by
    rw [badE]
    split
    · exact .inr (.inl rfl)
    · split
      · exact .inr (.inr rfl)
      · exact bad_vals n es _
/-- the sums behind k edits -/
def putK (es : List EdV) (k : Nat) : Nat := putIn ((es.take k).map EdV.plain)
def outK (es : List EdV) (k : Nat) : Nat := takenOut ((es.take k).map EdV.plain)
def touK (es : List EdV) (k : Nat) : Nat := touched ((es.take k).map EdV.plain)
theorem sums_step (es : List EdV) (k p l : Nat) (t : ByteArray) (h : k < es.length) (he : es[k] = ⟨p, l, t⟩) :
    putK es (k + 1) = putK es k + t.size ∧ outK es (k + 1) = outK es k + l ∧ touK es (k + 1) = touK es k + max t.size l := by
  have e : (es.take (k + 1)).map EdV.plain = (es.take k).map EdV.plain ++ [(p, l, t.data.toList)] := by
    rw [List.take_succ_eq_append_getElem h, List.map_append, he]; rfl
  refine ⟨?_, ?_, ?_⟩
  · rw [putK, e, putIn, List.map_append, List.sum_append, putK, putIn]; simp [size_list]
  · rw [outK, e, takenOut, List.map_append, List.sum_append, outK, takenOut]; simp
  · rw [touK, e, touched, List.map_append, List.sum_append, touK, touched]; simp [size_list]
theorem sums_bd (es : List EdV) (n : Nat) (h8 : ∀ e ∈ es, e.text.size ≤ 8) (hn : ∀ e ∈ es, ∃ (p l : Nat) (t : ByteArray), e = ⟨p, l, t⟩ ∧ l ≤ n) : ∀ k, k ≤ es.length → putK es k ≤ 8 * k ∧ outK es k ≤ n * k ∧ touK es k ≤ (8 + n) * k
  | 0, _ => ⟨Nat.zero_le _, Nat.zero_le _, Nat.zero_le _⟩
  | k + 1, hk => by
    obtain ⟨i1, i2, i3⟩ := sums_bd es n h8 hn k (by omega)
    have hlt : k < es.length := by omega
    obtain ⟨p, l, t, he, hl⟩ := hn es[k] (List.getElem_mem hlt)
    have h8 := h8 es[k] (List.getElem_mem hlt)
    rw [he] at h8
    have h8 : t.size ≤ 8 := h8
    obtain ⟨s1, s2, s3⟩ := sums_step es k p l t hlt he
    rw [s1, s2, s3]
    refine ⟨by omega, ?_, ?_⟩
    · rw [Nat.mul_succ]; omega
    · rw [Nat.mul_succ]; omega

set_option maxHeartbeats 2000000 in
theorem applied_skip (w : World) (a : ByteArray) (v : Value) (es : List EdV) (ha : a.size ≤ maxLen) (hv : EditsAt w v es) (hl : es.length ≤ maxLen) (h : 12 < a.size ∨ 6 < es.length ∨ longE es = true) :
    Calls Try.prog 7 #[.string a, v] w fun e w' => e = .returned (.bool true) ∧ Below w.heap.size w w' := by
  by_cases h12 : 12 < a.size ∨ 6 < es.length
  · clear h
    obtain ⟨ax, cx, rfl, _⟩ := hv
    unfold maxLen at ha hl
    rcases (show (12 : Int) < a.size ∨ ((a.size : Int) ≤ 12 ∧ (6 : Int) < es.length) by omega) with h1 | ⟨h1, h2⟩
    all_goals
      clear h12
      go_enter Try.func7, Try.ntmps7
      go_wp2_with fail
      refine (awake_any _).mono ?_
      rintro e w1 ⟨rfl, b1⟩
      have B1 := Lib.hid b1
      clear b1
      go_wp2
      go_ret
      exact ⟨rfl, B1.out⟩
  · have hlo : longE es = true := by
      rcases h with h | h | h
      · exact absurd (.inl h) h12
      · exact absurd (.inr h) h12
      · exact h
    have CL := Lib.hid (containsA_any es true hlo v w hv hl)
    obtain ⟨ax, cx, rfl, _⟩ := hv
    have h1 : (a.size : Int) ≤ 12 := by omega
    have h2 : (es.length : Int) ≤ 6 := by omega
    clear h h12 hlo ha hl
    go_enter Try.func7, Try.ntmps7
    go_wp2_with fail
    refine CL.out.mono ?_
    rintro e w1 ⟨rfl, b1⟩
    have B1 := Lib.hid b1
    clear b1
    go_wp2_with fail
    refine (awake_any _).mono ?_
    rintro e w2 ⟨rfl, b2⟩
    have B2 := Lib.hid (below_seq B1.out b2 B1.out.size)
    clear b2
    go_wp2
    go_ret
    exact ⟨rfl, B2.out⟩

set_option maxHeartbeats 8000000 in
theorem applied_walk (w : World) (a : ByteArray) (v : Value) (es : List EdV) (ha : a.size ≤ maxLen) (hv : EditsAt w v es) (hl : es.length ≤ maxLen) :
    Calls Try.prog 7 #[.string a, v] w fun e w' => e = .returned (.bool true) ∧ Below w.heap.size w w' := by
  by_cases hbig : 12 < a.size ∨ 6 < es.length ∨ longE es = true
  · exact applied_skip w a v es ha hv hl hbig
  · have hlo : longE es = false := by rw [Bool.eq_false_iff]; exact fun h => hbig (.inr (.inr h))
    have h1 : (a.size : Int) ≤ 12 := by omega
    have h2 : (es.length : Int) ≤ 6 := by omega
    have h8 : ∀ e ∈ es, e.text.size ≤ 8 := fun e he => by
      have : ¬ 8 < e.text.size := fun h => by
        have : longE es = true := by rw [longE, List.any_eq_true]; exact ⟨e, he, decide_eq_true h⟩
        rw [hlo] at this; cases this
      omega
    have CL := Lib.hid (containsA_any es false hlo v w hv hl)
    have C1 := Lib.hid (fun w hv => apply_any a es v w hv (by omega) h8 (by omega))
    have HV := Lib.hid hv
    have H8 := Lib.hid h8
    obtain ⟨ax, cx, rfl, _⟩ := hv
    have hbv := bad_vals a.data.toList.length es 0
    clear hbig ha hl hlo h8
    by_cases hb0 : badE a.data.toList.length 0 es = 0
    · obtain ⟨hf, hall⟩ := fit_bad a.data.toList.length es 0 hb0
      obtain ⟨k1, k2, k3⟩ := sums_bd es a.data.toList.length H8.out hall es.length (Nat.le_refl _)
      have hlen := apply_len a.data.toList (es.map EdV.plain) hf
      have hlev := apply_lev a.data.toList (es.map EdV.plain) hf
      rw [size_list] at hlen hall k2 k3
      have hlen2 : (applyE a.data.toList (es.map EdV.plain)).length + outK es es.length = a.size + putK es es.length := by rw [outK, putK, List.take_length]; exact hlen
      have hlev2 : lev a.data.toList (applyE a.data.toList (es.map EdV.plain)) ≤ touK es es.length := by rw [touK, List.take_length]; exact hlev
      have hR : applyR a.data.toList es = (applyE a.data.toList (es.map EdV.plain), 0) := by rw [applyR, if_neg (by rw [size_list]; omega), hb0, if_neg (by decide), if_neg (by omega)]
      rw [hR] at C1
      obtain ⟨out, hout⟩ : ∃ o, applyE a.data.toList (es.map EdV.plain) = o := ⟨_, rfl⟩
      rw [hout] at C1 hlen2 hlev2
      have hBs : (baL out).size = out.length := by rw [← size_list]; rfl
      have hBl : (baL out).data.toList = out := rfl
      have e1 := distR_small a (baL out) (by omega) (by omega)
      rw [hBl] at e1
      rw [← hBs] at hlen2
      obtain ⟨B, hB⟩ : ∃ B, baL out = B := ⟨_, rfl⟩
      have hsv : strV (out, 0) = .tuple #[.string B, .int .i64 0] := by rw [← hB]
      rw [hsv] at C1
      rw [hB] at e1 hlen2
      obtain ⟨x, hx⟩ : ∃ x, lev a.data.toList out = x := ⟨_, rfl⟩
      rw [hx] at e1 hlev2
      have C2 := Lib.hid (dist_at a B _ e1 (by omega) (by omega))
      have hszB : (a.size : Int) + (putK es es.length : Nat) - (outK es es.length : Nat) = (B.size : Int) := by omega
      have hxt : (x : Int) ≤ (touK es es.length : Nat) := by omega
      have HALL := Lib.hid hall
      have HSB := Lib.hid (sums_bd es a.size H8.out hall)
      clear hf hall k1 k2 k3 hlen hlev hlen2 hlev2 hR hout hBs hBl e1 hB hsv hx hb0 hbv
      go_enter Try.func7, Try.ntmps7
      go_wp2_with fail
      refine CL.out.mono ?_
      rintro e w1 ⟨rfl, b1⟩
      have B1 := Lib.hid b1
      have V1 := Lib.hid (HV.out.below b1)
      clear b1
      go_wp2_with fail
      refine (C1.out _ V1.out).mono ?_
      rintro e w2 ⟨rfl, b2⟩
      have B2 := Lib.hid (below_seq B1.out b2 B1.out.size)
      have V2 := Lib.hid (V1.out.below b2)
      clear b2
      go_wp2
      go_loopw [7, 8, 10, 56] (fun sz tz _ i wr => ∃ k : Nat, k ≤ es.length ∧ i = .int .i64 k ∧ sz = .int .i64 ((a.size : Int) + (putK es k : Nat) - (outK es k : Nat)) ∧ tz = .int .i64 (touK es k : Nat) ∧ Below w2.heap.size w2 wr) (fun _ _ _ i _ => es.length - (intOf i).toNat)
      case atStart => exact ⟨0, Nat.zero_le _, rfl, by show Value.int .i64 (a.size : Int) = .int .i64 ((a.size : Int) + ((0 : Nat) : Int) - ((0 : Nat) : Int)); first | (congr 1; omega) | simp, rfl, Below.refl _ _⟩
      case round =>
        obtain ⟨k, hk, rfl, rfl, rfl, hB⟩ := hrel
        have HB := Lib.hid hB
        obtain ⟨u1, u2, u3⟩ := HSB.out k hk
        by_cases hlt : k < es.length
        · obtain ⟨a2, c2, hv, hcx⟩ := V2.out.below hB
          obtain ⟨bx, ox, rfl, hbx, hcx⟩ := hcx (by omega)
          obtain ⟨q1, q2, q3⟩ := hcx k hlt
          simp only [Value.slice.injEq] at hv
          obtain ⟨rfl, hxl, rfl⟩ := hv
          obtain ⟨p, l0, tx, he, hl0⟩ := HALL.out es[k] (List.getElem_mem hlt)
          have h8 := H8.out es[k] (List.getElem_mem hlt)
          obtain ⟨s1, s2, s3⟩ := sums_step es k p l0 tx hlt he
          rw [he] at q1 q2 q3 h8
          simp only at q1 q2 q3 h8
          obtain ⟨P, hP⟩ : ∃ P, putK es k = P := ⟨_, rfl⟩
          obtain ⟨O, hO⟩ : ∃ O, outK es k = O := ⟨_, rfl⟩
          obtain ⟨T, hT⟩ : ∃ T, touK es k = T := ⟨_, rfl⟩
          rw [hP] at s1 u1 ⊢
          rw [hO] at s2 u2 ⊢
          rw [hT] at s3 u3 ⊢
          have hw1 : IntKind.i64.wrap ((tx.size : Int) - (l0 : Int)) = (tx.size : Int) - (l0 : Int) := IntWalk.i64_in _ (by omega)
          have hmul : a.size * k ≤ 72 := by
            have h1 : a.size ≤ 12 := by omega
            have h2 : k ≤ 6 := by omega
            exact Nat.le_trans (Nat.mul_le_mul h1 h2) (by decide)
          have hmul2 : (8 + a.size) * k ≤ 120 := by
            have h1 : 8 + a.size ≤ 20 := by omega
            have h2 : k ≤ 6 := by omega
            exact Nat.le_trans (Nat.mul_le_mul h1 h2) (by decide)
          have hw2 : IntKind.i64.wrap ((a.size : Int) + (P : Int) - (O : Int) + ((tx.size : Int) - (l0 : Int))) = (a.size : Int) + (P : Int) - (O : Int) + ((tx.size : Int) - (l0 : Int)) := IntWalk.i64_in _ (by omega)
          have hw3 : IntKind.i64.wrap ((T : Int) + max (tx.size : Int) (l0 : Int)) = (T : Int) + max (tx.size : Int) (l0 : Int) := IntWalk.i64_in _ (by omega)
          have HS := Lib.hid (And.intro s1 (And.intro s2 s3))
          have HBa := Lib.hid (hB.alloc hB.size (.cells #[.int .i64 p, .int .i64 l0, .string tx] 38))
          clear hcx he hB hxl s1 s2 s3 hP hO hT hmul hmul2
          go_wp2
          go_roundw
          case rel => exact ⟨k + 1, by omega, by go_num, by rw [HS.out.1, HS.out.2.1]; go_num, by rw [HS.out.2.2]; go_num, HBa.out⟩
          case measure => simp [intOf]; omega
        · obtain rfl : k = es.length := by omega
          have HBx := Lib.hid (below_seq B2.out HB.out B2.out.size)
          clear hB
          go_wp2_with fail
          refine (C2.out _).mono ?_
          rintro e w3 ⟨rfl, b3⟩
          have B3 := Lib.hid (below_seq HBx.out b3 HBx.out.size)
          clear b3
          go_wp2_with fail
          refine (awake_any _).mono ?_
          rintro e w4 ⟨rfl, b4⟩
          have B4 := Lib.hid (below_seq B3.out b4 B3.out.size)
          clear b4
          go_wp2
          go_ret
          exact ⟨rfl, B4.out⟩
    · have hne : 0 < es.length := by
        rcases es with _ | ⟨e, es⟩
        · exact absurd rfl hb0
        · simp
      have hR : applyR a.data.toList es = ([], badE a.data.toList.length 0 es) := by rw [applyR, if_neg (by rw [size_list]; omega), if_pos hb0]
      rw [hR] at C1
      have hnei : (0 : Int) < (es.length : Int) := by omega
      have hsv : ∀ k : Int, strV ([], k) = .tuple #[.string ⟨#[]⟩, .int .i64 k] := fun k => rfl
      rw [hsv] at C1
      obtain ⟨k, hk⟩ : ∃ k, badE a.data.toList.length 0 es = k := ⟨_, rfl⟩
      rw [hk] at C1 hbv hb0
      clear hR hsv hk
      rcases hbv with rfl | rfl | rfl
      · exact absurd rfl hb0
      all_goals
        clear hb0
        go_enter Try.func7, Try.ntmps7
        go_wp2_with fail
        refine CL.out.mono ?_
        rintro e w1 ⟨rfl, b1⟩
        have B1 := Lib.hid b1
        have V1 := Lib.hid (HV.out.below b1)
        clear b1
        go_wp2_with fail
        refine (C1.out _ V1.out).mono ?_
        rintro e w2 ⟨rfl, b2⟩
        have B2 := Lib.hid (below_seq B1.out b2 B1.out.size)
        clear b2
        go_wp2_with fail
        refine (awake_any _).mono ?_
        rintro e w3 ⟨rfl, b3⟩
        have B3 := Lib.hid (below_seq B2.out b3 B2.out.size)
        clear b3
        go_wp2
        go_ret
        exact ⟨rfl, B3.out⟩
end Go.Proofs.Ytbdeakodmhcgdaa
