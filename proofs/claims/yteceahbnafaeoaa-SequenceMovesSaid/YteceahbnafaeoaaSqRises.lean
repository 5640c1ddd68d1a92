/- rises. -/
import Derived.Test.YteceahbnafaeoaaSqRise
import Derived.Test.YteceahbnafaeoaaSqHelp
import Derived.Maps.AppendAt
namespace Go.Proofs.Yteceahbnafaeoaa
set_option linter.unusedSimpArgs false
set_option linter.unusedVariables false
set_option maxRecDepth 100000
open Go.RowKit Go.Deep

theorem ofInt_u16 (x : Nat) (h : x < 65536) : (BitVec.ofInt 16 (x : Int)).toNat = x := by
  rw [BitVec.toNat_ofInt]; omega
theorem bit_u16 (m : Nat) (hm : m < 65536) (i : Nat) : (bits BinOp.and IntKind.u16 ((m : Int) / 2 ^ i) 1 == 0) = !m.testBit i := by
  have h : m / 2 ^ i ≤ m := Nat.div_le_self _ _
  have e : bits BinOp.and IntKind.u16 ((m / 2 ^ i : Nat) : Int) ((1 : Nat) : Int) = ((m / 2 ^ i &&& 1 : Nat) : Int) := by
    show IntKind.u16.wrap ((BitVec.ofInt 16 ((m / 2 ^ i : Nat) : Int) &&& BitVec.ofInt 16 ((1 : Nat) : Int)).toNat : Int) = _
    rw [BitVec.toNat_and, ofInt_u16 _ (by omega), ofInt_u16 _ (by decide)]
    have : m / 2 ^ i &&& 1 ≤ 1 := Nat.and_le_right
    rcases (show m / 2 ^ i &&& 1 = 0 ∨ m / 2 ^ i &&& 1 = 1 by omega) with h | h <;> rw [h] <;> decide
  have hd : ((m : Int) / 2 ^ i) = ((m / 2 ^ i : Nat) : Int) := by simp
  rw [hd]
  rw [show ((1 : Nat) : Int) = 1 from rfl] at e
  rw [e, Nat.and_one_is_mod, Nat.testBit_eq_decide_div_mod_eq]
  rw [Bool.eq_iff_iff]; simp only [beq_iff_eq, Bool.not_eq_true', decide_eq_false_iff_not]; omega
theorem chosen_all {l : List Int} {m n : Nat} (h : incB l (chosen m n) = true) : ∀ k, k ≤ n → incB l (chosen m k) = true := by
  intro k hk
  induction n with
  | zero => have : k = 0 := by omega
            subst this; exact h
  | succ n ih =>
    by_cases hq : k = n + 1
    · subst hq; exact h
    · refine ih ?_ (by omega)
      unfold chosen at h
      split at h
      · exact incB_left h
      · exact h
theorem own_keep {W W' : World} {base : Nat} {e : TypeId} {size n : Nat} {v : Value} {xs : List Value} (h : W.ownsRow base e size v n xs) (hB : Below W.heap.size W W') : W'.ownsRow base e size v n xs := by
  refine ⟨h.1, ?_⟩
  rcases h.2 with hn | ⟨g, cap, cur, rfl, hbg, hg, rest⟩
  · exact .inl hn
  · exact .inr ⟨g, cap, cur, rfl, hbg, (hB.block g (Array.getElem?_eq_some_iff.1 hg).1).trans hg, rest⟩
theorem own_more {wr : World} {base : Nat} {o : Value} {xs ys : List Int} {x : Int} {n : Nat} (h : wr.ownsRow base 3 1 o n (xs.map intV ++ [Value.int .i64 x])) (hy : ys = xs ++ [x]) (hn : n = ys.length) : wr.ownsRow base 3 1 o ys.length (ys.map intV) := by
  subst hn; rw [hy] at h ⊢; simpa using h
theorem int_news (W : World) (c : Int) (t : TypeId) (n : Nat) (h : n = W.heap.size) : ∀ j u, [Value.int .i64 c][j]? = some u → (W.alloc (.cells #[.int .i64 c] t)).cell? ((⟨n, 0, none⟩ : Addr).add j) = some u := by
  intro j u hj
  subst h
  match j, hj with
  | 0, hj => simp at hj; subst hj; simp [Addr.add]
theorem own_below {w wr w1 : World} {base : Nat} {e : TypeId} {size n : Nat} {v : Value} {xs : List Value} {o : Obj} (hB : Below base w wr) (hb : base ≤ wr.heap.size) (hown : wr.ownsRow base e size v n xs) (hg : (wr.alloc o).grownBy w1 v.ownBlock) : Below base w w1 :=
  (hB.alloc hb o).grown hg (by simp; omega) (fun k hk => (hown.lt k hk).1)
set_option maxHeartbeats 2000000 in
theorem rises_any (l : List Int) (m : Nat) (hm : m < 65536) (hl : l.length ≤ 12) (v : Value) (w : World) (hv : IntsAt w v l) :
    Calls Try.prog 34 #[v, .int .u16 m] w fun e w' => ∃ u, e = .returned (.tuple #[u, .bool (incB l (chosen m l.length))]) ∧ (incB l (chosen m l.length) = true → IntsAt w' u (chosen m l.length)) ∧ Below w.heap.size w w' := by
  obtain ⟨i0, hi, hz0, hz1, hz2⟩ := info_parts info_int
  have HV := Lib.hid hv
  obtain ⟨a, cap, rfl⟩ := hv.slice
  clear hv
  go_enter Try.func34, Try.ntmps34
  go_wp2
  go_loopw [6, 10] (fun o i wr => ∃ k : Nat, k ≤ l.length ∧ i = .int .i64 k ∧ wr.ownsRow w.heap.size 3 1 o (chosen m k).length ((chosen m k).map intV) ∧ incB l (chosen m k) = true ∧ Below w.heap.size w wr) (fun _ i _ => l.length - (intOf i).toNat)
  case atStart => exact ⟨0, Nat.zero_le _, rfl, World.ownsRow_nil _ _ _ _, rfl, Below.refl _ _⟩
  case round =>
    obtain ⟨k, hk, rfl, hown, hinc, hB⟩ := hrel
    obtain ⟨wk, rfl⟩ : ∃ x, x = wr := ⟨_, rfl⟩
    have HO := Lib.hid hown
    have HB := Lib.hid hB
    have HI := Lib.hid hinc
    have hcl := chosen_len m k
    clear hown hinc
    by_cases hlt : k < l.length
    · have hbit := bit_u16 m hm k
      have HN := Lib.hid (show chosen m (k + 1) = if m.testBit k then chosen m k ++ [(k : Int)] else chosen m k from rfl)
      have HLTS := Lib.hid (chosen_lt m k)
      obtain ⟨bt, hbt⟩ : ∃ b, m.testBit k = b := ⟨_, rfl⟩
      rw [hbt] at hbit HN
      clear hbt
      cases bt
      · clear hB
        go_wp2
        go_roundw
        case rel => exact ⟨k + 1, by omega, by go_num, by rw [HN.out]; exact HO.out, by rw [HN.out]; exact HI.out, HB.out⟩
        case measure => simp [intOf]; omega
      · have HSN := Lib.hid (incB_snoc l (chosen m k) k (by unfold inB; rw [decide_eq_true (by omega), decide_eq_true (by omega)]; rfl))
        have HALL := Lib.hid (show nextB l (chosen m k) k = false → incB l (chosen m l.length) = false by
          intro hf
          cases hq : incB l (chosen m l.length) with
          | false => rfl
          | true =>
            have h1 := chosen_all hq (k + 1) (by omega)
            rw [HN.out, if_pos rfl, HSN.out, hf, Bool.and_false] at h1
            cases h1)
        obtain ⟨b, off, rfl, hbb, c0⟩ := HV.out.elem hlt
        have hcell : wk.cell? ⟨b, off + k, none⟩ = some (.int .i64 l[k]) := (hB.cell (p := ⟨b, off + k, none⟩) hbb).trans c0
        have hat : at0 l k = l[k] := at0_get l k hlt
        have hon := IntsAt.of_own HO.out
        obtain ⟨S, hS⟩ : ∃ S, chosen m k = S := ⟨_, rfl⟩
        rw [hS] at hcl HO HN HLTS HSN HALL HI hon
        by_cases h0 : S.length = 0
        · obtain rfl : S = [] := List.length_eq_zero_iff.1 h0
          have hnx : nextB l [] k = true := rfl
          obtain ⟨so, sc, rfl⟩ := hon.slice
          have hg : decide ((0 : Int) < ((0 : Nat) : Int)) = false := by decide
          have HNX := Lib.hid hnx
          clear hS hnx c0 hat hon hB h0 hcl
          simp only [List.length_nil] at HO
          rw [List.length_nil]
          go_wp2_with fail
          go_quiet (fail)
          clear hg hbit hcell
          have HO1 := Lib.hid (fun n => own_keep HO.out (below_drewN wk n))
          have HB1 := Lib.hid (fun n => below_seq HB.out (below_drewN wk n) HB.out.size)
          go_wp2_with (at_builtin; refine wpList_append_own _ rfl _ _ 22 rfl w.heap.size 3 i0 (.int .i64 0) 1 8 Try.underlying22 hi hz0 hz1 hz2 rfl (by decide) _ _ _ rfl ((HO1.out _).alloc _) ⟨wk.heap.size, 0, none⟩ 1 1 [.int .i64 _] rfl rfl (int_news _ _ _ _ rfl) (by simp [Value.oneCell']) (by unfold maxLen; omega) (by omega) (by have := HB.out.size; simp; omega) ?_; intro v' w1 hown' hgrow hnn; clear hnn; have HO2 := Lib.hid hown'; have HB2 := Lib.hid (own_below (HB1.out _) (HB1.out _).size (HO1.out _) hgrow); clear hown' hgrow)
          go_roundw
          case rel => exact ⟨k + 1, by omega, by go_num, own_more HO2.out (by rw [HN.out]; rfl) (by rw [HN.out]; rfl), by have h1 := HSN.out; rw [HNX.out, HI.out] at h1; rw [HN.out]; exact h1, HB2.out⟩
          case measure => simp [intOf]; omega
        · obtain ⟨n, hn⟩ : ∃ n, S.length = n + 1 := ⟨S.length - 1, by omega⟩
          have hp : n < S.length := by omega
          obtain ⟨q, hq, hq2, hq3⟩ : ∃ q : Nat, ix S n = (q : Int) ∧ q < l.length ∧ q < k := by
            have h1 := HLTS.out _ (List.getElem_mem hp)
            rw [ix_get S _ hp]
            exact ⟨(S[n]).toNat, by omega, by omega, by omega⟩
          obtain ⟨so, sc, rfl⟩ := hon.slice
          obtain ⟨g, go, rfl, hgb, hgc⟩ := hon.elem hp
          rw [← ix_get S _ hp, hq] at hgc
          obtain ⟨b', off', e', hbb', c1⟩ := HV.out.elem hq2
          cases e'
          have hcell2 : wk.cell? ⟨b, off + q, none⟩ = some (.int .i64 l[q]) := (hB.cell (p := ⟨b, off + q, none⟩) hbb).trans c1
          have hat2 : at0 l q = l[q] := at0_get l q hq2
          obtain ⟨x, hx⟩ : ∃ x, l[k] = x := ⟨_, rfl⟩
          obtain ⟨y, hy⟩ : ∃ y, l[q] = y := ⟨_, rfl⟩
          rw [hx] at hat hcell
          rw [hy] at hat2 hcell2
          have hnx : nextB l S k = decide (y < x) := by
            unfold nextB
            rw [hn, Nat.add_sub_cancel, hq, hat, hat2, decide_eq_false (by omega), decide_eq_true (show (q : Int) < k by omega), Bool.false_or, Bool.true_and]
          have HNX := Lib.hid hnx
          have hgt : decide ((0 : Int) < ((n + 1 : Nat) : Int)) = true := decide_eq_true (by omega)
          have hwr : IntKind.i64.wrap (((n + 1 : Nat) : Int) - 1) = (n : Int) := by rw [show (((n + 1 : Nat) : Int) - 1) = n by omega]; exact IntWalk.i64_in _ (by omega)
          have hb1 : (0 : Int) ≤ (n : Int) := by omega
          have hb2 : (n : Int) < ((n + 1 : Nat) : Int) := by omega
          have hb3 : (0 : Int) ≤ (q : Int) := by omega
          have hb4 : (q : Int) < (l.length : Int) := by omega
          have hb5 : (0 : Int) ≤ (k : Int) := by omega
          have hb6 : (k : Int) < (l.length : Int) := by omega
          have HN1 := Lib.hid hn
          have HO1 := Lib.hid (fun n => own_keep HO.out (below_drewN wk n))
          have HB1 := Lib.hid (fun n => below_seq HB.out (below_drewN wk n) HB.out.size)
          rw [hn] at hcl ⊢
          clear hS hnx c0 c1 hat hat2 hon hB h0 hq hx hy hp hq2 hq3 hgb hbb hbb' hn
          by_cases hlt2 : y < x
          · have hge : decide (x ≤ y) = false := decide_eq_false (by omega)
            go_wp2_with fail
            go_quiet (fail)
            clear hge hgt hwr hgc hcell hcell2 hb1 hb2 hb3 hb4 hb5 hb6 hbit
            rw [HN1.out] at HO1
            go_wp2_with (at_builtin; refine wpList_append_own _ rfl _ _ 22 rfl w.heap.size 3 i0 (.int .i64 0) 1 8 Try.underlying22 hi hz0 hz1 hz2 rfl (by decide) _ _ _ rfl ((HO1.out _).alloc _) ⟨wk.heap.size, 0, none⟩ 1 1 [.int .i64 _] rfl rfl (int_news _ _ _ _ rfl) (by simp [Value.oneCell']) (by unfold maxLen; omega) (by omega) (by have := HB.out.size; simp; omega) ?_; intro v' w1 hown' hgrow hnn; clear hnn; have HO2 := Lib.hid hown'; have HB2 := Lib.hid (own_below (HB1.out _) (HB1.out _).size (HO1.out _) hgrow); clear hown' hgrow)
            go_roundw
            case rel => exact ⟨k + 1, by omega, by go_num, own_more HO2.out (by rw [HN.out]; rfl) (by rw [HN.out]; simp [HN1.out]), by have h1 := HSN.out; rw [HNX.out, HI.out, decide_eq_true hlt2] at h1; rw [HN.out]; exact h1, HB2.out⟩
            case measure => simp [intOf]; omega
          · have hge : decide (x ≤ y) = true := decide_eq_true (by omega)
            have HF := Lib.hid (HALL.out (by rw [HNX.out, decide_eq_false hlt2]))
            go_wp2_with fail
            go_quiet (fail)
            go_wp2
            go_ret2
            exact ⟨_, by rw [HF.out]; rfl, fun h => absurd (HF.out.symm.trans h) (by decide), HB1.out _⟩
    · obtain rfl : k = l.length := by omega
      have hon := IntsAt.of_own HO.out
      have HON := Lib.hid hon
      clear hon hB hcl
      go_wp2
      go_ret2
      exact ⟨_, by rw [HI.out]; rfl, fun _ => HON.out, HB.out⟩
end Go.Proofs.Yteceahbnafaeoaa
