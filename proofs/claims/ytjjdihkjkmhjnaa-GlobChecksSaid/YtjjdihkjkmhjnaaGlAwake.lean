/- The anchor of the laws: the chapter's examples. Takes the program's contracts (GlobOk1). -/
import Derived.Test.YtjjdihkjkmhjnaaGlSpec
namespace Go.Proofs.Ytjjdihkjkmhjnaa
set_option linter.unusedSimpArgs false
set_option linter.unusedVariables false
set_option maxRecDepth 100000
open Go.RowKit Go.Deep

theorem mat_lead {a : UInt8} {w : List UInt8} : Mat [.one a, .star] w ↔ ∃ b, w = a :: b := by
  rw [mat_one (by rfl)]
  constructor
  · rintro ⟨c, b, rfl, h, _⟩
    exact ⟨b, by rw [show a = c from eq_of_beq h]⟩
  · rintro ⟨b, rfl⟩
    exact ⟨a, b, rfl, beq_self_eq_true a, mat_all b⟩
theorem mat_trail {a : UInt8} {w : List UInt8} : Mat [.star, .one a] w ↔ ∃ b, w = b ++ [a] := by
  rw [mat_star]
  constructor
  · rintro ⟨b, c, rfl, h⟩
    obtain ⟨d, rfl, h2⟩ := (mat_single (by rfl)).1 h
    exact ⟨b, by rw [show a = d from eq_of_beq h2]⟩
  · rintro ⟨b, rfl⟩
    exact ⟨b, [a], rfl, (mat_single (by rfl)).2 ⟨a, rfl, beq_self_eq_true a⟩⟩
/-- the common string of a* and *b -/
theorem common_ab {v : List UInt8} {is : Bool} {r : Int} (h : CommonIs [97, 42] [42, 98] 8 v is r) : v = [97, 98] ∧ is = true ∧ r = 0 := by
  have hp : par [97, 42] = (0, [.one 97, .star]) := rfl
  have hq : par [42, 98] = (0, [.star, .one 98]) := rfl
  unfold CommonIs at h
  rw [if_neg (by rw [show chk [97, 42] = 0 from rfl, show chk [42, 98] = 0 from rfl]; decide), if_neg (by decide), hp, hq] at h
  simp only at h
  have ha : ([97, 98] : List UInt8).all chW = true := by decide
  have h1 : Mat [.one 97, .star] [97, 98] := mat_lead.2 ⟨_, rfl⟩
  have h2 : Mat [.star, .one 98] [97, 98] := mat_trail.2 ⟨[97], rfl⟩
  obtain ⟨rfl, h⟩ := h
  rcases h with ⟨rfl, _, _, h3, h4, h5⟩ | ⟨_, _, h3⟩
  · refine ⟨?_, rfl, rfl⟩
    have hb := h5 _ ha h1 h2
    obtain ⟨t, rfl⟩ := mat_lead.1 h3
    obtain ⟨u, hu⟩ := mat_trail.1 h4
    unfold befL at hb
    rw [Bool.or_eq_false_iff] at hb
    have hl : ¬ 2 < (97 :: t).length := by simpa using hb.1
    cases t with
    | nil =>
      have := congrArg List.getLast? hu
      simp at this
    | cons d t2 =>
      cases t2 with
      | nil =>
        have := congrArg List.getLast? hu
        simp at this
        rw [this]
      | cons => simp at hl
  · have := h3 _ ha h1 h2
    simp at this
theorem max4 (W : World) : (Builtin.max_ #[24, 24, 24, 24] 24 #[.int .i64 0, .int .i64 0, .int .i64 0, .int .i64 0]).run Try.prog W = .ok (.int .i64 0) W := by rfl
theorem max5 (W : World) : (Builtin.max_ #[24, 24, 24, 24, 24] 24 #[.int .i64 0, .int .i64 0, .int .i64 0, .int .i64 0, .int .i64 0]).run Try.prog W = .ok (.int .i64 0) W := by rfl
set_option maxHeartbeats 2000000 in
theorem awake_any (H : GlobOk1) (w : World) : Calls Try.prog 12 #[] w fun e w' => e = .returned (.bool true) ∧ Below w.heap.size w w' := by
  go_enter Try.func12, Try.ntmps12
  go_wp2_with fail
  refine (H.mtch ⟨#[100, 101, 42, 115]⟩ ⟨#[100, 101, 117, 115]⟩ true 0 rfl w).mono ?_
  rintro e w1 ⟨rfl, h1⟩
  have HB1 := Lib.hid h1
  clear h1
  go_wp2_with fail
  refine (H.mtch ⟨#[100, 101, 42, 115]⟩ ⟨#[100, 101, 117, 109]⟩ false 0 rfl w1).mono ?_
  rintro e w2 ⟨rfl, h2⟩
  have HB2 := Lib.hid (below_seq HB1.out h2 HB1.out.size)
  clear h2
  go_wp2_with fail
  refine (H.literal ⟨#[91, 100, 93, 101, 117, 115]⟩ ⟨#[100, 101, 117, 115]⟩ true 0 rfl w2).mono ?_
  rintro e w3 ⟨rfl, h3⟩
  have HB3 := Lib.hid (below_seq HB2.out h3 HB2.out.size)
  clear h3
  go_wp2_with fail
  refine (H.bounds ⟨#[97, 63, 91, 98, 99, 93, 42]⟩ 3 (-1) 0 rfl w3).mono ?_
  rintro e w4 ⟨rfl, h4⟩
  have HB4 := Lib.hid (below_seq HB3.out h4 HB3.out.size)
  clear h4
  go_wp2_with fail
  refine (H.common ⟨#[97, 42]⟩ ⟨#[42, 98]⟩ 8 (by decide) (by decide) w4).mono ?_
  rintro e w5 ⟨v, is, r, rfl, hc, h5⟩
  obtain ⟨hv, rfl, rfl⟩ := common_ab hc
  obtain rfl : v = ⟨#[97, 98]⟩ := ba_of hv
  have HB5 := Lib.hid (below_seq HB4.out h5 HB4.out.size)
  clear h5 hc hv
  have hmax := max5
  go_wp2_with fail
  go_ret
  exact ⟨rfl, HB5.out⟩
end Go.Proofs.Ytjjdihkjkmhjnaa
