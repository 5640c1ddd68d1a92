/- The examples of the chapter: awake() is true, whatever the memory. -/
import Derived.Test.YtbdeakodmhcgdaaEdScr3
import Derived.Test.YtbdeakodmhcgdaaEdComm
namespace Go.Proofs.Ytbdeakodmhcgdaa
set_option linter.unusedSimpArgs false
set_option linter.unusedVariables false
set_option maxRecDepth 100000
open Go.RowKit Go.Deep

/-! ### what can be reckoned -/
section
variable {α : Type} [DecidableEq α]
def levF : Nat → List α → List α → Nat
  | 0, a, b => a.length + b.length
  | _ + 1, [], b => b.length
  | _ + 1, _ :: a, [] => a.length + 1
  | n + 1, x :: a, y :: b => min (min (levF n a (y :: b)) (levF n (x :: a) b) + 1) (levF n a b + if x = y then 0 else 1)
theorem levF_eq : ∀ (n : Nat) (a b : List α), a.length + b.length ≤ n → levF n a b = lev a b
  | 0, [], [], _ => by rw [levF, lev_nil]; rfl
  | 0, _ :: _, _, h => absurd h (by simp)
  | 0, [], _ :: _, h => absurd h (by simp)
  | n + 1, [], b, _ => by rw [levF, lev_nil]
  | n + 1, x :: a, [], _ => by rw [levF, lev_nil']; rfl
  | n + 1, x :: a, y :: b, h => by
    simp only [List.length_cons] at h
    rw [levF, lev_cons, levF_eq n a (y :: b) (by simp; omega), levF_eq n (x :: a) b (by simp; omega), levF_eq n a b (by omega)]
def scrF : Nat → List α → List α → List (EdT α)
  | 0, _, _ => []
  | _ + 1, [], [] => []
  | n + 1, [], y :: b => (0, 0, [y]) :: scrF n [] b
  | n + 1, x :: a, [] => (a.length, 1, []) :: scrF n a []
  | n + 1, x :: a, y :: b =>
    if x = y then scrF n a b
    else if (scrF n a b).length ≤ min (scrF n a (y :: b)).length (scrF n (x :: a) b).length then (a.length, 1, [y]) :: scrF n a b
    else if (scrF n a (y :: b)).length ≤ (scrF n (x :: a) b).length then (a.length, 1, []) :: scrF n a (y :: b)
    else (a.length + 1, 0, [y]) :: scrF n (x :: a) b
theorem scrF_eq : ∀ (n : Nat) (a b : List α), a.length + b.length ≤ n → scrF n a b = scr a b
  | 0, [], [], _ => by rw [scrF, scr_nil]
  | 0, _ :: _, _, h => absurd h (by simp)
  | 0, [], _ :: _, h => absurd h (by simp)
  | n + 1, [], [], _ => by rw [scrF, scr_nil]
  | n + 1, [], y :: b, h => by rw [scrF, scr_ins, scrF_eq n [] b (by simp at h ⊢; omega)]
  | n + 1, x :: a, [], h => by rw [scrF, scr_del, scrF_eq n a [] (by simp at h ⊢; omega)]
  | n + 1, x :: a, y :: b, h => by
    simp only [List.length_cons] at h
    rw [scrF, scr_cons, scrF_eq n a b (by omega), scrF_eq n a (y :: b) (by simp; omega), scrF_eq n (x :: a) b (by simp; omega), scr_length, scr_length, scr_length]
    have hl := lev_cons x y a b
    by_cases e : x = y
    · subst e
      rw [if_pos rfl, if_pos ⟨rfl, lev_same x a b⟩]
    · rw [if_neg e] at hl ⊢
      rw [if_neg (show ¬ (x = y ∧ lev (x :: a) (y :: b) = lev a b) from fun h => e h.1)]
      by_cases c1 : lev a b ≤ min (lev a (y :: b)) (lev (x :: a) b)
      · rw [if_pos c1, if_pos (show lev (x :: a) (y :: b) = lev a b + 1 by omega)]
      · rw [if_neg c1, if_neg (show ¬ lev (x :: a) (y :: b) = lev a b + 1 by omega)]
        by_cases c2 : lev a (y :: b) ≤ lev (x :: a) b
        · rw [if_pos c2, if_pos (show lev (x :: a) (y :: b) = lev a (y :: b) + 1 by omega)]
        · rw [if_neg c2, if_neg (show ¬ lev (x :: a) (y :: b) = lev a (y :: b) + 1 by omega)]
end
def bestF : Nat → List ByteArray → List ByteArray → List ByteArray
  | 0, _, _ => []
  | _ + 1, [], _ => []
  | _ + 1, _ :: _, [] => []
  | n + 1, x :: a, y :: b => if x = y then betterL (betterL (bestF n a (y :: b)) (bestF n (x :: a) b)) (x :: bestF n a b) else betterL (bestF n a (y :: b)) (bestF n (x :: a) b)
theorem bestF_is : ∀ (n : Nat) (a b : List ByteArray), a.length + b.length ≤ n → IsBest ltB a b (bestF n a b)
  | 0, [], [], _ => best_nil_left []
  | 0, _ :: _, _, h => absurd h (by simp)
  | 0, [], _ :: _, h => absurd h (by simp)
  | n + 1, [], b, _ => by rw [bestF]; exact best_nil_left b
  | n + 1, x :: a, [], _ => by rw [bestF]; exact best_nil_right _
  | n + 1, x :: a, y :: b, h => by
    simp only [List.length_cons] at h
    rw [bestF]
    exact best_more (bestF_is n a b (by omega)) (bestF_is n a (y :: b) (by simp; omega)) (bestF_is n (x :: a) b (by simp; omega))

theorem ex_dist : distR ⟨#[107, 105, 116, 116, 101, 110]⟩ ⟨#[115, 105, 116, 116, 105, 110, 103]⟩ = (3, 0) := by
  rw [distR, if_neg (by decide), ← levF_eq 13 _ _ (by decide)]; decide
theorem ex_dist2 : distR ⟨#[114, 101, 120]⟩ ⟨#[114, 101, 115]⟩ = (1, 0) := by
  rw [distR, if_neg (by decide), ← levF_eq 6 _ _ (by decide)]; decide
theorem ex_sim : simR ⟨#[114, 101, 120]⟩ ⟨#[114, 101, 115]⟩ = (666, 0) := by rw [simR, ex_dist2]; decide
theorem ex_scr : scrR ⟨#[97, 98, 99]⟩ ⟨#[97, 120, 99, 100]⟩ = ([⟨1, 1, ⟨#[120]⟩⟩, ⟨3, 0, ⟨#[100]⟩⟩], 0) := by
  rw [scrR, if_neg (by decide), script, ← scrF_eq 7 _ _ (by decide)]; decide
theorem ex_com {l : List ByteArray} (h : IsBest ltB [⟨#[97]⟩, ⟨#[98]⟩, ⟨#[99]⟩] [⟨#[98]⟩, ⟨#[97]⟩, ⟨#[99]⟩] l) : l = [⟨#[97]⟩, ⟨#[99]⟩] := by
  rw [best_unique ltB ltB_total h (bestF_is 6 _ _ (by decide))]; decide

set_option maxHeartbeats 2000000 in
/-- slices.Equal of two lists of edits that are the same -/
theorem equalE_any (es : List EdV) (vx vy : Value) (w : World) (hx : EditsAt w vx es) (hy : EditsAt w vy es) (lx : es.length ≤ 1000000) :
    Calls Try.prog 39 #[vx, vy] w fun e w' => e = .returned (.bool true) ∧ Below w.heap.size w w' := by
  obtain ⟨ax, cx, rfl, hcx⟩ := hx
  obtain ⟨ay, cy, rfl, hcy⟩ := hy
  have HX := Lib.hid hcx
  have HY := Lib.hid hcy
  clear hcx hcy
  go_enter Try.func39, Try.ntmps39
  go_wp2
  go_loopw [13] (fun i wr => ∃ k : Nat, k ≤ es.length ∧ i = .int .i64 k ∧ Below w.heap.size w wr) (fun i _ => es.length - (intOf i).toNat)
  case atStart => exact ⟨0, Nat.zero_le _, rfl, Below.refl _ _⟩
  case round =>
    obtain ⟨k, hk, rfl, hB⟩ := hrel
    by_cases hlt : k < es.length
    · obtain ⟨bx, ox, rfl, hbx, hcx⟩ := HX.out (by omega)
      obtain ⟨bY, oY, rfl, hbY, hcY⟩ := HY.out (by omega)
      obtain ⟨q1, q2, q3⟩ := hcx k hlt
      obtain ⟨r1, r2, r3⟩ := hcY k hlt
      have cx1 := (hB.cell (p := ⟨bx, ox + k * 3, none⟩) hbx).trans q1
      have cx2 := (hB.cell (p := ⟨bx, ox + k * 3 + 1, none⟩) hbx).trans q2
      have cx3 := (hB.cell (p := ⟨bx, ox + k * 3 + 2, none⟩) hbx).trans q3
      have cy1 := (hB.cell (p := ⟨bY, oY + k * 3, none⟩) hbY).trans r1
      have cy2 := (hB.cell (p := ⟨bY, oY + k * 3 + 1, none⟩) hbY).trans r2
      have cy3 := (hB.cell (p := ⟨bY, oY + k * 3 + 2, none⟩) hbY).trans r3
      clear hcx hcY q1 q2 q3 r1 r2 r3
      obtain ⟨⟨p, l, t⟩, hex⟩ : ∃ z, es[k] = z := ⟨_, rfl⟩
      rw [hex] at cx1 cx2 cx3 cy1 cy2 cy3
      simp only at cx1 cx2 cx3 cy1 cy2 cy3
      clear hex
      go_wp2_with fail
      go_region
      go_wp2
      go_roundw
      case rel => exact ⟨k + 1, by omega, by go_num, hB.drew⟩
      case measure => simp [intOf]; omega
    · go_wp2
      go_ret
      exact ⟨rfl, hB⟩

/-- slices.Equal of two lists of strings that are the same, both of which the call owns or reads -/
theorem equalS_any (xs : List ByteArray) (v1 v2 : Value) (w : World) (h1 : StrsAt w v1 xs) (h2 : StrsAt w v2 xs) (h0 : 0 < xs.length) (lx : xs.length ≤ 1000000) :
    Calls Try.prog 40 #[v1, v2] w fun e w' => e = .returned (.bool true) ∧ Below w.heap.size w w' := by
  obtain ⟨a1, c1, rfl, hc1⟩ := h1
  obtain ⟨a2, c2, rfl, hc2⟩ := h2
  obtain ⟨b1, o1, rfl, _, hc1⟩ := hc1 h0
  obtain ⟨b2, o2, rfl, _, hc2⟩ := hc2 h0
  have ht : xs.take xs.length = xs.take xs.length := rfl
  refine (Try.slices_Equal_string b1 o1 xs.length c1 b2 o2 xs.length c2 xs xs w (Nat.le_refl _) (Nat.le_refl _) (by omega) (by omega) ?_ ?_).mono fun e w' h => ⟨by rw [h.1, decide_eq_true ht], by obtain ⟨q, e⟩ := h.2; rw [e]; exact below_drewN _ _⟩
  · intro j hj; rw [hc1 j hj, List.getD_eq_getElem?_getD, List.getElem?_eq_getElem hj]; rfl
  · intro j hj; rw [hc2 j hj, List.getD_eq_getElem?_getD, List.getElem?_eq_getElem hj]; rfl
theorem script_at (a b : ByteArray) (L : List EdV) (k : Int) (h : scrR a b = (L, k)) (ha : a.size ≤ 1000000) (hb : b.size ≤ 1000000) (w : World) :
    Calls Try.prog 16 #[.string a, .string b] w (ScrPost L k w) := by
  have := script_any a b ha hb w
  rw [h] at this
  exact this

theorem strs_lit (w : World) (xs : List ByteArray) (cs : Array Value) (h : cs.toList = xs.map Value.string) (hm : xs.length ≤ maxLen) : StrsAt (w.alloc (.cells cs 9)) (.slice (some ⟨w.heap.size, 0, none⟩) xs.length xs.length) xs := by
  have := World.ownsRow_lit (base := w.heap.size) (e := 9) (size := 1) w cs xs.length (Nat.le_refl _) hm (by rw [← Array.length_toList, h, List.length_map, Nat.mul_one])
  rw [h] at this
  exact StrsAt.of_own this
theorem edits_lit (w : World) (es : List EdV) (cs : Array Value) (h : cs.toList = es.flatMap cellsE3) (hm : es.length ≤ maxLen) : EditsAt (w.alloc (.cells cs 38)) (.slice (some ⟨w.heap.size, 0, none⟩) es.length es.length) es := by
  have := World.ownsRow_lit (base := w.heap.size) (e := 38) (size := 3) w cs es.length (Nat.le_refl _) hm (by rw [← Array.length_toList, h, flat_len])
  rw [h] at this
  exact EditsAt.of_own this
theorem EditsAt.below {W W' : World} {v : Value} {es : List EdV} (h : EditsAt W v es) (hB : Below W.heap.size W W') : EditsAt W' v es := by
  obtain ⟨a, cap, rfl, hc⟩ := h
  refine ⟨a, cap, rfl, fun h0 => ?_⟩
  obtain ⟨b, off, rfl, hb, hcs⟩ := hc h0
  exact ⟨b, off, rfl, Nat.lt_of_lt_of_le hb hB.size, fun j hj => ⟨(hB.cell (p := ⟨b, off + j * 3, none⟩) hb).trans (hcs j hj).1, (hB.cell (p := ⟨b, off + j * 3 + 1, none⟩) hb).trans (hcs j hj).2.1, (hB.cell (p := ⟨b, off + j * 3 + 2, none⟩) hb).trans (hcs j hj).2.2⟩⟩

theorem max3_zero (w : World) : Sem.run Try.prog (Builtin.max_ #[24, 24, 24] 24 #[.int .i64 0, .int .i64 0, .int .i64 0]) w = .ok (.int .i64 0) w := by
  kernel_rfl
theorem max4_zero (w : World) : Sem.run Try.prog (Builtin.max_ #[24, 24, 24, 24] 24 #[.int .i64 0, .int .i64 0, .int .i64 0, .int .i64 0]) w = .ok (.int .i64 0) w := by
  kernel_rfl
theorem max5_zero (w : World) : Sem.run Try.prog (Builtin.max_ #[24, 24, 24, 24, 24] 24 #[.int .i64 0, .int .i64 0, .int .i64 0, .int .i64 0, .int .i64 0]) w = .ok (.int .i64 0) w := by
  kernel_rfl

set_option maxHeartbeats 4000000 in
theorem awake_any (w : World) : Calls Try.prog 13 #[] w fun e w' => e = .returned (.bool true) ∧ Below w.heap.size w w' := by
  have hmax := max4_zero
  go_enter Try.func13, Try.ntmps13
  go_wp2_with fail
  refine (dist_at _ _ _ ex_dist (by decide) (by decide) _).mono ?_
  rintro e w1 ⟨rfl, b1⟩
  have B1 := Lib.hid b1
  clear b1
  go_wp2_with fail
  refine (script_at _ _ _ _ ex_scr (by decide) (by decide) _).mono ?_
  rintro e w2 ⟨v2, rfl, ho2, b2⟩
  have B2 := Lib.hid (below_seq B1.out b2 B1.out.size)
  have O2 := Lib.hid ho2
  clear b2 ho2
  go_wp2_with fail
  have hA : Below w2.heap.size w2 (w2.alloc (.cells #[Value.string ⟨#[97]⟩, Value.string ⟨#[98]⟩, Value.string ⟨#[99]⟩] 9)) := (Below.refl _ _).alloc (Nat.le_refl _) _
  have hA2 : Below (w2.alloc (.cells #[Value.string ⟨#[97]⟩, Value.string ⟨#[98]⟩, Value.string ⟨#[99]⟩] 9)).heap.size (w2.alloc (.cells #[Value.string ⟨#[97]⟩, Value.string ⟨#[98]⟩, Value.string ⟨#[99]⟩] 9)) ((w2.alloc (.cells #[Value.string ⟨#[97]⟩, Value.string ⟨#[98]⟩, Value.string ⟨#[99]⟩] 9)).alloc (.cells #[Value.string ⟨#[98]⟩, Value.string ⟨#[97]⟩, Value.string ⟨#[99]⟩] 9)) := (Below.refl _ _).alloc (Nat.le_refl _) _
  have s1 := (strs_lit w2 [⟨#[97]⟩, ⟨#[98]⟩, ⟨#[99]⟩] #[Value.string ⟨#[97]⟩, Value.string ⟨#[98]⟩, Value.string ⟨#[99]⟩] rfl (by decide)).below hA2
  have s2 := strs_lit (w2.alloc (.cells #[Value.string ⟨#[97]⟩, Value.string ⟨#[98]⟩, Value.string ⟨#[99]⟩] 9)) [⟨#[98]⟩, ⟨#[97]⟩, ⟨#[99]⟩] #[Value.string ⟨#[98]⟩, Value.string ⟨#[97]⟩, Value.string ⟨#[99]⟩] rfl (by decide)
  rw [nblk_alloc] at s2
  have B3 := Lib.hid (below_seq B2.out (below_seq hA hA2 hA.size) B2.out.size)
  have B3s := Lib.hid (Nat.le_trans hA.size hA2.size)
  have O3 := Lib.hid (O2.out.below (below_seq hA hA2 hA.size))
  refine (common_any _ _ _ _ _ s1 s2 (by decide)).mono ?_
  rintro e w3 ⟨v3, l, rfl, ho3, hbest, b3⟩
  have hl := ex_com hbest
  subst hl
  have O4 := Lib.hid ho3
  have O5 := Lib.hid (O3.out.below b3)
  have B4 := Lib.hid (below_seq B3.out b3 B3.out.size)
  clear hA hA2 s1 s2 ho3 hbest b3
  go_wp2_with fail
  refine (similarity_at _ _ _ ex_sim (by decide) (by decide) _).mono ?_
  rintro e w4 ⟨rfl, b4⟩
  have O6 := Lib.hid (O4.out.below b4)
  have O7 := Lib.hid (O5.out.below b4)
  have B5 := Lib.hid (below_seq B4.out b4 B4.out.size)
  clear b4
  go_wp2_with fail
  clear hmax
  have hA3 : Below w4.heap.size w4 (w4.alloc (.cells #[.int .i64 1, .int .i64 1, .string ⟨#[120]⟩, .int .i64 3, .int .i64 0, .string ⟨#[100]⟩] 38)) := (Below.refl _ _).alloc (Nat.le_refl _) _
  have s3 := edits_lit w4 [⟨1, 1, ⟨#[120]⟩⟩, ⟨3, 0, ⟨#[100]⟩⟩] #[.int .i64 1, .int .i64 1, .string ⟨#[120]⟩, .int .i64 3, .int .i64 0, .string ⟨#[100]⟩] rfl (by decide)
  have O8 := Lib.hid (O6.out.below hA3)
  have B6 := Lib.hid (below_seq B5.out hA3 B5.out.size)
  refine (equalE_any _ _ _ _ (O7.out.below hA3) s3 (by decide)).mono ?_
  rintro e w5 ⟨rfl, b5⟩
  have O9 := Lib.hid (O8.out.below b5)
  have B7 := Lib.hid (below_seq B6.out b5 B6.out.size)
  clear hA3 s3 b5
  go_wp2_with fail
  have hA4 : Below w5.heap.size w5 (w5.alloc (.cells #[.string ⟨#[97]⟩, .string ⟨#[99]⟩] 9)) := (Below.refl _ _).alloc (Nat.le_refl _) _
  have s4 := strs_lit w5 [⟨#[97]⟩, ⟨#[99]⟩] #[.string ⟨#[97]⟩, .string ⟨#[99]⟩] rfl (by decide)
  have B8 := Lib.hid (below_seq B7.out hA4 B7.out.size)
  refine (equalS_any _ _ _ _ (O9.out.below hA4) s4 (by decide) (by decide)).mono ?_
  rintro e w6 ⟨rfl, b6⟩
  have B9 := Lib.hid (below_seq B8.out b6 B8.out.size)
  clear hA4 s4 b6
  go_wp2
  go_ret
  exact ⟨rfl, B9.out⟩
end Go.Proofs.Ytbdeakodmhcgdaa
