/- The reference's Check, elements, checkWord, Great, stands. -/
import Derived.Test.YtjjdihkjkmhjnaaGlRefs
namespace Go.Proofs.Ytjjdihkjkmhjnaa
set_option linter.unusedSimpArgs false
set_option linter.unusedVariables false
set_option maxRecDepth 100000
open Go.RowKit Go.Deep

set_option maxHeartbeats 2000000 in
theorem refCheck_at (s : ByteArray) (er : Int) (hr : chk s.data.toList = er) (w : World) :
    Calls Try.prog 20 #[.string s] w fun e w' => e = .returned (intV er) ∧ w = w' := by
  unfold chk at hr
  rw [size_list] at hr
  by_cases h1 : 64 < s.size
  · rw [if_pos h1] at hr
    subst hr
    have q : decide ((64 : Int) < s.size) = true := by simp; omega
    go_enter Try.func20, Try.ntmps20
    go_wp2_with fail
    go_ret
    exact ⟨rfl, rfl⟩
  · rw [if_neg h1] at hr
    have q : decide ((64 : Int) < s.size) = false := by simp; omega
    have HR := Lib.hid hr
    clear hr
    go_enter Try.func20, Try.ntmps20
    go_wp2_with fail
    go_loopw [0] (fun v0 wr => ∃ sb : ByteArray, v0 = .string sb ∧ sb.size ≤ 64 ∧ Hid ((par sb.data.toList).1 = er) ∧ w = wr) (fun v0 _ => szOf v0)
    case atStart => exact ⟨s, rfl, by omega, HR, by trivial⟩
    case round =>
      obtain ⟨sb, rfl, hsb, HE, rfl⟩ := hrel
      by_cases h0 : 0 < sb.size
      · have hne : sb.data.toList ≠ [] := by intro e; have := congrArg List.length e; rw [size_list, List.length_nil] at this; omega
        obtain ⟨⟨e1, x, n⟩, hp⟩ : ∃ q, pel sb.data.toList = q := ⟨_, rfl⟩
        have HP := Lib.hid hp
        have HEL := Lib.hid (refElement_at sb h0 (by omega) e1 n x hp w)
        have q2 : decide ((0 : Int) < sb.size) = true := decide_eq_true (by omega)
        clear hp
        go_wp2_with fail
        refine HEL.out.mono ?_
        rintro e w1 ⟨rfl, rfl⟩
        by_cases he : e1 = 0
        · have hp := HP.out
          have hp1 : (pel sb.data.toList).1 = 0 := by rw [hp]; exact he
          have hl := pel_len hp1
          rw [hp, size_list] at hl
          have hg := par_good hne hp1
          rw [hp] at hg
          have heb : (e1 != 0) = false := by simpa using he
          have hn0 : (0 : Int) ≤ n := by omega
          have hn1 : (n : Int) ≤ sb.size := by have := hl.2; simp at this; omega
          obtain ⟨sc, hsc⟩ : ∃ sc, sb.extract n sb.size = sc := ⟨_, rfl⟩
          have HSC := Lib.hid (ext_drop hsc)
          have HG := Lib.hid hg
          have HL := Lib.hid hl
          clear hg hl hp hp1
          go_wp2_with fail
          refine ⟨⟨sc, rfl, by rw [HSC.out.2]; omega, Lib.hid (by rw [HSC.out.1, ← HE.out, HG.out]), by trivial⟩, ?_⟩
          have h9 : 1 ≤ n := HL.out.1
          simp only [szOf]
          rw [HSC.out.2]
          omega
        · have heb : (e1 != 0) = true := by simpa using he
          have hb := par_bad hne (by rw [HP.out]; exact he)
          have : e1 = er := by rw [← HE.out, hb, HP.out]
          subst this
          clear hb
          go_wp2_with fail
          go_ret
          exact ⟨rfl, by trivial⟩
      · have hz0 : sb.size = 0 := by omega
        have : sb.data.toList = [] := List.eq_nil_of_length_eq_zero (by rw [size_list]; exact hz0)
        have he : er = 0 := by rw [← HE.out, this]; rfl
        have q2 : decide ((0 : Int) < sb.size) = false := decide_eq_false (by omega)
        subst he
        clear this
        go_wp2_with fail
        go_ret
        exact ⟨rfl, by trivial⟩
set_option maxHeartbeats 2000000 in
theorem refElements_any (s : ByteArray) (hs : s.size ≤ 64) (l : List El) (hl : par s.data.toList = (0, l)) (w : World) :
    Calls Try.prog 38 #[.string s] w (ElsPost l w) := by
  obtain ⟨i0, hi, hz0, hz1, hz2⟩ := info_parts info_str
  have HL := Lib.hid hl
  clear hl
  go_enter Try.func38, Try.ntmps38
  go_wp2_with fail
  go_loopw [0, 3] (fun v0 v wr => ∃ (sb : ByteArray) (d r : List El), v0 = .string sb ∧ d.length + sb.size ≤ 64 ∧ Hid (par sb.data.toList = (0, r) ∧ l = d ++ r) ∧ wr.ownsRow w.heap.size 9 1 v d.length (d.map fun x => .string (elB x)) ∧ Below w.heap.size w wr) (fun v0 _ _ => szOf v0)
  case atStart => exact ⟨s, [], l, rfl, by simpa using hs, Lib.hid ⟨HL.out, rfl⟩, World.ownsRow_nil _ _ _ _, Below.refl _ _⟩
  case round =>
    obtain ⟨sb, d, r, rfl, hd, HI, hown, hB⟩ := hrel
    have HO := Lib.hid hown
    have HB := Lib.hid hB
    have hwr := hB.size
    clear hown hB
    by_cases h0 : 0 < sb.size
    · have hne : sb.data.toList ≠ [] := by intro e; have := congrArg List.length e; rw [size_list, List.length_nil] at this; omega
      obtain ⟨⟨e1, x, n⟩, hp⟩ : ∃ q, pel sb.data.toList = q := ⟨_, rfl⟩
      have he1 : e1 = 0 := by
        by_cases h : e1 = 0
        · exact h
        · have := par_bad hne (by rw [hp]; exact h)
          rw [HI.out.1, hp] at this
          simp only [Prod.mk.injEq] at this
          exact absurd this.1.symm h
      subst he1
      have hp1 : (pel sb.data.toList).1 = 0 := by rw [hp]
      have hlen := pel_len hp1
      rw [hp, size_list] at hlen
      simp only at hlen
      have hg := par_good hne hp1
      rw [hp, HI.out.1] at hg
      simp only [Prod.mk.injEq] at hg
      obtain ⟨k1, k2, k3⟩ := pel_ok hp
      have HEL := Lib.hid (refElement_at sb h0 (by omega) 0 n x hp wr)
      have q2 : decide ((0 : Int) < sb.size) = true := decide_eq_true (by omega)
      have hn0 : (0 : Int) ≤ n := by omega
      have hn1 : (n : Int) ≤ sb.size := by omega
      obtain ⟨sc, hsc⟩ : ∃ sc, sb.extract n sb.size = sc := ⟨_, rfl⟩
      obtain ⟨hs1, hs2⟩ := ext_drop hsc
      have hxe : sb.extract 0 n = elB x := ba_of (by
        rw [elB_list, ext_list, List.drop_zero, Nat.sub_zero, k3, k2, List.take_left])
      have HG := Lib.hid (And.intro hg (And.intro hs1 hs2))
      have HN := Lib.hid hlen
      clear hp hp1 hlen hg k1 k2 k3 hs1 hs2
      go_wp2_with fail
      refine HEL.out.mono ?_
      rintro e w1 ⟨rfl, rfl⟩
      go_wp2_with (at_builtin; refine wpList_append_own _ rfl _ _ 32 rfl w.heap.size 9 i0 (.string ⟨#[]⟩) 1 16 Try.underlying32 hi hz0 hz1 hz2 rfl (by decide) _ _ _ rfl (HO.out.alloc _) ⟨wr.heap.size, 0, none⟩ 1 1 [.string _] rfl rfl (one_news _ _ _ _ rfl) (by simp [Value.oneCell']) (by unfold maxLen; omega) (by omega) (by simp; omega) ?_; intro v' w2 hown' hgrow hnn; clear hnn; have HO1 := Lib.hid hown'; have HB1 := Lib.hid (own_below HB.out hwr HO.out hgrow); clear hown' hgrow)
      refine ⟨⟨sc, d ++ [x], (par (sb.data.toList.drop n)).2, rfl, ?_, Lib.hid ⟨?_, ?_⟩, ?_, HB1.out⟩, ?_⟩
      · have := HG.out.2.2; have := HN.out; rw [List.length_append, List.length_singleton]; omega
      · rw [HG.out.2.1]
        exact Prod.ext HG.out.1.1.symm rfl
      · rw [HI.out.2, HG.out.1.2]; simp
      · have := HO1.out
        simpa using this
      · have := HG.out.2.2; have := HN.out
        simp only [szOf]; omega
    · have hz0 : sb.size = 0 := by omega
      have hz : sb.data.toList = [] := List.eq_nil_of_length_eq_zero (by rw [size_list]; exact hz0)
      have q2 : decide ((0 : Int) < sb.size) = false := decide_eq_false (by omega)
      have hr : r = [] := by have := HI.out.1; rw [hz] at this; cases this; rfl
      have hld : l = d := by rw [HI.out.2, hr, List.append_nil]
      have HH := Lib.hid hld
      clear hz hr hld
      go_wp2_with fail
      refine bodyPost_ret (v := u3) (by simp [results, Try.results38, go_sem]) rfl ⟨_, rfl, ?_, HB.out⟩
      rw [HH.out]
      refine StrsAt.of_own (base := w.heap.size) (e := 9) (n := d.length) ?_
      rw [List.map_map]
      exact HO.out
end Go.Proofs.Ytjjdihkjkmhjnaa
