/- MarkupStrips: the law's walk. -/
import Derived.Test.YtdgihkgomfpmoaaDoorMkLossless
import Derived.Test.YtdgihkgomfpmoaaDoorMkSome
namespace Go.Proofs.YtdgihkgomfpmoaaDoor
set_option linter.unusedSimpArgs false
set_option linter.unusedVariables false
set_option maxRecDepth 100000
open Go.RowKit Go.Deep

theorem no_marks {t : Bs} (h : ∀ c ∈ t, kd c ≠ 0) : anyIn ⟨#[60, 62, 47]⟩ (baL t) = false := by
  rw [anyIn, List.any_eq_false]
  intro c hc
  have hk := h c hc
  simp only [List.any_cons, List.any_nil, Bool.or_false, Bool.or_eq_true, beq_iff_eq]
  rintro (rfl | rfl | rfl)
  · exact hk (by decide)
  · exact hk (by decide)
  · exact hk (by decide)
set_option maxHeartbeats 4000000 in
theorem strips_law (H : MkOk) (s : Bs) (w : World) [T w] (hs : s.length ≤ maxLen) :
    Calls Tryd.prog 6 #[sV s] w fun e w' => e = .returned (.bool true) ∧ Below w.heap.size w w' := by
  have hsz : (baL s).size = s.length := baL_size s
  have HA := Lib.hid (fun (W : World) [T W] => awake_any H W)
  by_cases h200 : 200 < s.length
  · have hd : decide ((200 : Int) < (s.length : Int)) = true := decide_eq_true (by omega)
    clear hs
    go_enter Tryd.func6, Tryd.ntmps6
    go_wp2_with fail
    refine (HA.out w).mono ?_
    rintro e' w2 ⟨rfl, h2⟩
    have B2 := Lib.hid h2
    try have tB2 := T.below B2.out
    clear h2
    go_wp2
    go_ret
    exact ⟨rfl, B2.out⟩
  · have hd : decide ((200 : Int) < (s.length : Int)) = false := decide_eq_false (by omega)
    obtain ⟨r, hr⟩ : ∃ r, stripR s = r := ⟨_, rfl⟩
    obtain ⟨t, e⟩ := r
    have HST := Lib.hid (fun (W : World) [T W] => strip_at H s t e hr hs W)
    obtain ⟨c, hc⟩ : ∃ c, chk s = c := ⟨_, rfl⟩
    have HCK := Lib.hid (fun W => R01.refCheck_at (baL s) c hc (by rw [baL_size]; exact hs) W)
    have hacc : c = 0 → t = s ∧ e = 0 := fun h => by
      have := strip_acc (hc.trans h)
      rw [hr] at this
      exact ⟨congrArg Prod.fst this, congrArg Prod.snd this⟩
    have hes : (scanR s).2 = e := by have := congrArg Prod.snd hr; exact this
    by_cases he : e = 0
    · subst he
      obtain ⟨k1, k2⟩ := strip_kd hes
      rw [hr] at k1 k2
      have hcc : ((c == 0) = true ∧ (baL t).toList = (baL s).toList) ∨ (c == 0) = false := by
        by_cases h : c = 0
        · exact .inl ⟨by simp [h], by rw [(hacc h).1]⟩
        · exact .inr (by simpa using h)
      have HSO := Lib.hid (fun W => some_at (baL t) ⟨#[60, 62, 47]⟩ (by rw [baL_size]; have : t.length ≤ s.length := k2; omega) false (no_marks k1) W)
      have hk2 : decide ((t.length : Int) ≤ (s.length : Int)) = true := decide_eq_true (by have : t.length ≤ s.length := k2; omega)
      have hk3 : (t.length : Int) ≤ (s.length : Int) := by have : t.length ≤ s.length := k2; omega
      have htz : (baL t).size = t.length := baL_size t
      have HKD := Lib.hid (show ∀ i (h : i < t.length), kindI (((baL t)[i]'(by rw [baL_size]; exact h)).toNat) ≠ 0 from fun i h => k1 t[i] (List.getElem_mem h))
      have htl : t.length ≤ 200 := by have : t.length ≤ s.length := k2; omega
      have h00 : ((0 : Int) != 0) = false := rfl
      obtain ⟨z, hz⟩ : ∃ z, baL t = z := ⟨_, rfl⟩
      have hst : sV t = .string z := by rw [← hz]
      have HSZ := Lib.hid htz
      rw [hz] at htz hcc HSO HSZ
      have HKD2 := Lib.hid (show ∀ i (h : i < z.size), ∃ k : Int, kindI (z[i].toNat) = k ∧ (k == 0) = false from fun i h => by
        subst hz
        exact ⟨_, rfl, by have := HKD.out i (by rw [baL_size] at h; exact h); simpa using this⟩)
      rw [hst] at HST
      obtain ⟨m, hm⟩ : ∃ m, t.length = m := ⟨_, rfl⟩
      rw [hm] at htz hk2 hk3 htl
      clear hr hc hs hacc hes k1 k2 HKD hz hst hm
      rcases hcc with ⟨c1, c2⟩ | c1
      all_goals
        go_enter Tryd.func6, Tryd.ntmps6
        go_wp2_with fail
        refine (HST.out w).mono ?_
        rintro e' w1 ⟨rfl, h1⟩
        have B1 := Lib.hid h1
        try have tB1 := T.below B1.out
        clear h1
        go_wp2_with fail
        refine (HCK.out w1).mono ?_
        rintro e' w2 ⟨rfl, h2⟩
        have B2 := Lib.hid (below_then B1.out h2)
        try have tB2 := T.below B2.out
        clear h2
        go_wp2
        go_loopw [36] (fun iv wr => ∃ i : Nat, i ≤ m ∧ iv = .int .i64 i ∧ wr = w2) (fun iv _ => m - (intOf iv).toNat)
        case atStart => exact ⟨0, Nat.zero_le _, rfl, rfl⟩
        case round =>
          obtain ⟨i, hi, rfl, rfl⟩ := hrel
          obtain ⟨wk, rfl⟩ : ∃ x, x = wr := ⟨_, rfl⟩
          try have twk : T wk := T.below hB
          by_cases hlt : i < m
          · have hlz : i < z.size := by omega
            obtain ⟨k, hk, hk0⟩ := HKD2.out i hlz
            have HK := Lib.hid (R01.refKind_any (z[i].toNat) wk)
            rw [hk] at HK
            clear hk
            go_wp2_with fail
            refine HK.out.mono ?_
            rintro e' w3 ⟨rfl, rfl⟩
            go_wp2_with fail
            go_roundw
            case rel => exact ⟨i + 1, by omega, by go_num, trivial⟩
            case measure => simp [intOf]; omega
          · obtain rfl : i = m := by omega
            go_wp2_with fail
            refine (HSO.out wk).mono ?_
            rintro e' w4 ⟨rfl, h4⟩
            have B4 := Lib.hid (below_then B2.out h4)
            try have tB4 := T.below B4.out
            clear h4
            go_wp2_with fail
            refine (HA.out w4).mono ?_
            rintro e' w5 ⟨rfl, h5⟩
            have B5 := Lib.hid (below_then B4.out h5)
            try have tB5 := T.below B5.out
            clear h5
            go_wp2
            go_ret
            exact ⟨rfl, B5.out⟩
    · have he0 : (e == 0) = false := by simpa using he
      have he1 : (e != 0) = true := by simpa using he
      have hc0 : (c == 0) = false := by
        rw [beq_eq_false_iff_ne]
        exact fun h => he (hacc h).2
      have ht : t = [] := by
        have := strip_err (s := s) (by rw [hes]; exact he)
        rwa [hr] at this
      subst ht
      have hnil : (baL []).toList.isEmpty = true := by rw [baL_nil]; rfl
      clear hr hc hs hacc hes he
      go_enter Tryd.func6, Tryd.ntmps6
      go_wp2_with fail
      refine (HST.out w).mono ?_
      rintro e' w1 ⟨rfl, h1⟩
      have B1 := Lib.hid h1
      try have tB1 := T.below B1.out
      clear h1
      go_wp2_with fail
      refine (HCK.out w1).mono ?_
      rintro e' w2 ⟨rfl, h2⟩
      have B2 := Lib.hid (below_then B1.out h2)
      try have tB2 := T.below B2.out
      clear h2
      go_wp2_with fail
      refine (HA.out w2).mono ?_
      rintro e' w5 ⟨rfl, h5⟩
      have B5 := Lib.hid (below_then B2.out h5)
      try have tB5 := T.below B5.out
      clear h5
      go_wp2
      go_ret
      exact ⟨rfl, B5.out⟩
theorem strips_w (H : MkOk) (w : World) [T w] (s : ByteArray) (hs : s.size ≤ maxLen) :
    Calls Tryd.prog 6 #[.string s] w fun e w' => e = .returned (.bool true) ∧ Below w.heap.size w w' := by
  have := strips_law H s.data.toList w hs
  unfold sV at this
  rwa [baL_list] at this
end Go.Proofs.YtdgihkgomfpmoaaDoor
