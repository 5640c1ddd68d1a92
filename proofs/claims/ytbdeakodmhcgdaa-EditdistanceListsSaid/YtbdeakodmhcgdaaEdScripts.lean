/- The walk of EditdistanceScripts. -/
import Derived.Test.YtbdeakodmhcgdaaEdMetric
import Derived.Test.YtbdeakodmhcgdaaEdApp
namespace Go.Proofs.Ytbdeakodmhcgdaa
set_option linter.unusedSimpArgs false
set_option linter.unusedVariables false
set_option maxRecDepth 100000
open Go.RowKit Go.Deep

theorem plain_edB (e : EdT UInt8) : (edB e).plain = e := by
  obtain ⟨p, l, t⟩ := e
  rfl
theorem plain_map (es : List (EdT UInt8)) : (es.map edB).map EdV.plain = es := by
  rw [List.map_map]
  induction es with
  | nil => rfl
  | cons e es ih => rw [List.map_cons, ih, Function.comp, plain_edB]
theorem bad_fit (n : Nat) : ∀ (es : List (EdT UInt8)) (at_ : Nat), fitE n at_ es → badE n at_ (es.map edB) = 0
  | [], _, _ => rfl
  | e :: es, at_, h => by
    obtain ⟨h1, h2, h3⟩ := h
    rw [List.map_cons, badE]
    show (if (e.1 : Int) < 0 ∨ (e.2.1 : Int) < 0 ∨ (n : Int) < (e.1 : Int) ∨ (n : Int) - (e.1 : Int) < (e.2.1 : Int) then (2 : Int) else if (e.1 : Int) < (at_ : Int) then 10 else badE n ((e.1 : Int).toNat + (e.2.1 : Int).toNat) (es.map edB)) = 0
    rw [if_neg (by omega), if_neg (by omega)]
    exact bad_fit n es _ h3
theorem apply_script (a b : ByteArray) (ha : a.size ≤ 256) (hb : b.size ≤ 256) : applyR a.data.toList ((script a.data.toList b.data.toList).map edB) = (b.data.toList, 0) := by
  rw [applyR, if_neg (by rw [size_list]; omega), bad_fit _ _ _ (script_fits _ _), if_neg (by decide), plain_map, script_leads, if_neg (by rw [size_list]; omega)]

set_option maxHeartbeats 2000000 in
theorem scripts_skip (w : World) (a b : ByteArray) (ha : a.size ≤ maxLen) (hb : b.size ≤ maxLen) (h : 12 < a.size ∨ 12 < b.size) :
    Calls Try.prog 6 #[.string a, .string b] w fun e w' => e = .returned (.bool true) ∧ Below w.heap.size w w' := by
  unfold maxLen at ha hb
  rcases (show (12 : Int) < a.size ∨ ((a.size : Int) ≤ 12 ∧ (12 : Int) < b.size) by omega) with h1 | ⟨h1, h2⟩
  all_goals
    clear h
    go_enter Try.func6, Try.ntmps6
    go_wp2_with fail
    refine (awake_any _).mono ?_
    rintro e w1 ⟨rfl, b1⟩
    have B1 := Lib.hid b1
    clear b1
    go_wp2
    go_ret
    exact ⟨rfl, B1.out⟩

/-- what the law asks of each edit -/
theorem edit_ways (a b : ByteArray) (e : EdV) (h : e ∈ (script a.data.toList b.data.toList).map edB) : ∃ (p : Nat) (t : ByteArray), p ≤ a.size ∧
    ((e = ⟨p, 0, t⟩ ∧ t.size = 1) ∨ (e = ⟨p, 1, t⟩ ∧ p + 1 ≤ a.size ∧ t.size ≤ 1 ∧ ¬ (a.extract p (p + 1)).toList = t.toList)) := by
  obtain ⟨x, hx, rfl⟩ := List.mem_map.1 h
  rcases script_single _ _ x hx with ⟨h1, h2, y, h3⟩ | ⟨h1, h2, h3⟩
  · refine ⟨x.1, baL x.2.2, by rwa [size_list] at h2, .inl ⟨?_, by rw [h3]; rfl⟩⟩
    rw [edB, h1]; rfl
  · have hp : x.1 < a.size := by rwa [size_list] at h2
    refine ⟨x.1, baL x.2.2, Nat.le_of_lt hp, .inr ⟨by rw [edB, h1]; rfl, hp, ?_, ?_⟩⟩
    · rw [← size_list]
      rcases h3 with h3 | ⟨y, h3, _⟩ <;> (rw [h3]; simp [baL])
    · intro e
      have e := bytes_eq e
      rw [ext_one a x.1 hp] at e
      rcases h3 with h3 | ⟨y, h3, h4⟩
      · rw [h3] at e
        have e2 := congrArg (fun s : ByteArray => s.data.toList.length) e
        have : (1 : Nat) = 0 := e2
        omega
      · rw [h3, baL_one] at e
        exact h4 ((one_inj _ _ e))

set_option maxHeartbeats 8000000 in
theorem scripts_walk (w : World) (a b : ByteArray) (ha : a.size ≤ maxLen) (hb : b.size ≤ maxLen) :
    Calls Try.prog 6 #[.string a, .string b] w fun e w' => e = .returned (.bool true) ∧ Below w.heap.size w w' := by
  by_cases hbig : 12 < a.size ∨ 12 < b.size
  · exact scripts_skip w a b ha hb hbig
  · clear ha hb
    have ha : (a.size : Int) ≤ 12 := by omega
    have hb : (b.size : Int) ≤ 12 := by omega
    clear hbig
    have e1 := distR_small a b (by omega) (by omega)
    have e2 : scrR a b = ((script a.data.toList b.data.toList).map edB, 0) := by rw [scrR, if_neg (by omega)]
    have e3 := apply_script a b (by omega) (by omega)
    have hlen := script_length a.data.toList b.data.toList
    have m := lev_most a.data.toList b.data.toList
    rw [size_list, size_list] at m
    have HW := Lib.hid (edit_ways a b)
    obtain ⟨x, hx⟩ : ∃ x, lev a.data.toList b.data.toList = x := ⟨_, rfl⟩
    rw [hx] at e1 hlen m
    rw [← List.length_map (f := edB)] at hlen
    have h8 : ∀ e ∈ (script a.data.toList b.data.toList).map edB, e.text.size ≤ 8 := fun e he => by
      obtain ⟨p, t, _, ⟨rfl, h⟩ | ⟨rfl, _, h, _⟩⟩ := HW.out e he
      · show t.size ≤ 8; omega
      · show t.size ≤ 8; omega
    obtain ⟨L, hL⟩ : ∃ L, (script a.data.toList b.data.toList).map edB = L := ⟨_, rfl⟩
    rw [hL] at e2 e3 hlen HW h8
    have C1 := Lib.hid (dist_at a b _ e1 (by omega) (by omega))
    have C2 := Lib.hid (fun w => (script_at a b _ _ e2 (by omega) (by omega) w).mono (R' := fun e w' => ∃ av cv, e = .returned (.tuple #[.slice av x cv, .int .i64 0]) ∧ EditsAt w' (.slice av x cv) L ∧ Below w.heap.size w w') (fun e w' h => by
      obtain ⟨v, rfl, ho, hb⟩ := h
      obtain ⟨av, cv, rfl, _⟩ := id ho
      rw [hlen] at ho ⊢
      exact ⟨av, cv, rfl, ho, hb⟩))
    have C3 := Lib.hid (fun v w hv => apply_any a L v w hv (by omega) h8 (by omega))
    rw [e3] at C3
    have HLN := Lib.hid hlen
    have hbb : strV (b.data.toList, 0) = .tuple #[.string b, .int .i64 0] := by rw [strV, show baL ((b.data.toList, 0) : List UInt8 × Int).1 = b from ba_of rfl]
    rw [hbb] at C3
    have hmax := max3_zero
    clear e1 e2 e3 hL hx hlen h8 hbb
    go_enter Try.func6, Try.ntmps6
    go_wp2_with fail
    refine (C1.out _).mono ?_
    rintro e w1 ⟨rfl, b1⟩
    have B1 := Lib.hid b1
    clear b1
    go_wp2_with fail
    refine (C2.out _).mono ?_
    rintro e w2 ⟨av, cv, rfl, ho, b2⟩
    have B2 := Lib.hid (below_seq B1.out b2 B1.out.size)
    have HO := Lib.hid ho
    clear b2 ho
    go_wp2_with fail
    refine (C3.out _ _ HO.out).mono ?_
    rintro e w3 ⟨rfl, b3⟩
    have B3 := Lib.hid (below_seq B2.out b3 B2.out.size)
    have HO3 := Lib.hid (HO.out.below b3)
    clear b3
    go_wp2
    go_loopw [12, 58] (fun _ i wr => ∃ k : Nat, k ≤ x ∧ i = .int .i64 k ∧ Below w3.heap.size w3 wr) (fun _ i _ => x - (intOf i).toNat)
    case atStart => exact ⟨0, Nat.zero_le _, rfl, Below.refl _ _⟩
    case round =>
      obtain ⟨k, hk, rfl, hB⟩ := hrel
      have HB := Lib.hid hB
      by_cases hlt : k < x
      · obtain ⟨a2, c2, hv, hcx⟩ := HO3.out.below hB
        have hLk : k < L.length := by rw [HLN.out]; exact hlt
        obtain ⟨bx, ox, rfl, hbx, hcx⟩ := hcx (by omega)
        obtain ⟨q1, q2, q3⟩ := hcx k hLk
        simp only [Value.slice.injEq] at hv
        obtain ⟨rfl, hxl, rfl⟩ := hv
        clear hxl
        obtain ⟨p, t, hp, hw⟩ := HW.out L[k] (List.getElem_mem hLk)
        obtain ⟨e, he⟩ : ∃ e, L[k] = e := ⟨_, rfl⟩
        rw [he] at q1 q2 q3 hw
        have HBa := Lib.hid (hB.alloc hB.size (.cells #[.int .i64 e.place, .int .i64 e.len, .string e.text] 38))
        have HBr := Lib.hid HBa.out.drew
        clear hcx he hB
        rcases hw with ⟨rfl, h1⟩ | ⟨rfl, h1, h2, h3⟩
        · simp only at q1 q2 q3
          have h1i : (t.size : Int) = 1 := by omega
          go_wp2_with fail
          go_region
          go_wp2
          go_roundw
          case rel => exact ⟨k + 1, by omega, by go_num, HBr.out⟩
          case measure => simp [intOf]; omega
        · simp only at q1 q2 q3
          obtain ⟨p1, hp1⟩ : ∃ p1, p + 1 = p1 := ⟨_, rfl⟩
          have h3b : ((a.extract p p1).toList == t.toList) = false := by rw [← hp1, Bool.eq_false_iff]; intro h; exact h3 (by simpa using h)
          have hpi : (p : Int) + 1 = (p1 : Int) := by omega
          have hpa : p ≤ p1 := by omega
          have hpb : p1 ≤ a.size := by omega
          have hw2 : IntKind.i64.wrap (p1 : Int) = (p1 : Int) := IntWalk.i64_in _ (by omega)
          have hpaI : (p : Int) ≤ (p1 : Int) := by omega
          have hpbI : (p1 : Int) ≤ (a.size : Int) := by omega
          rcases (show (t.size : Int) = 0 ∨ (t.size : Int) = 1 by omega) with h1i | h1i
          all_goals
            clear h1 h2 h3 hp1
            go_wp2_with fail
            go_region
            go_wp2
            go_roundw
            case rel => exact ⟨k + 1, by omega, by go_num, HBr.out⟩
            case measure => simp [intOf]; omega
      · have HBx := Lib.hid (below_seq B3.out HB.out B3.out.size)
        go_wp2_with fail
        refine (awake_any _).mono ?_
        rintro e w5 ⟨rfl, b5⟩
        have B5 := Lib.hid (below_seq HBx.out b5 HBx.out.size)
        clear b5
        go_wp2
        go_ret
        exact ⟨rfl, B5.out⟩
end Go.Proofs.Ytbdeakodmhcgdaa
