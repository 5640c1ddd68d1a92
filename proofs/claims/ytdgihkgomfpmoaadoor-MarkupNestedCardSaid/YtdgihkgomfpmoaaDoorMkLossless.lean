/- MarkupLossless: the law's walk. -/
import Derived.Test.YtdgihkgomfpmoaaDoorMkAwake
import Derived.Test.YtdgihkgomfpmoaaDoorMkArgs
namespace Go.Proofs.YtdgihkgomfpmoaaDoor
set_option linter.unusedSimpArgs false
set_option linter.unusedVariables false
set_option maxRecDepth 100000
open Go.RowKit Go.Deep

theorem val_len : ∀ (A : List Lx) (p : Bool) (o : Nat), valB p o A = true → A.length ≤ (prn A).length ∧ ∀ x ∈ A, okX false { x with o := 0 } = true ∨ okX true { x with o := 0 } = true
  | [], _, _, _ => ⟨by simp, fun x hx => by cases hx⟩
  | x :: A, p, o, h => by
    unfold valB at h
    rw [Bool.and_eq_true, Bool.and_eq_true] at h
    obtain ⟨h1, h2⟩ := val_len A _ _ h.2
    have h3 := ok_len h.1.1
    refine ⟨by rw [prn_cons, List.length_append, List.length_cons]; omega, fun y hy => ?_⟩
    rcases List.mem_cons.1 hy with rfl | hy
    · cases p
      · exact .inl h.1.1
      · exact .inr h.1.1
    · exact h2 y hy
theorem val_mem : ∀ (A : List Lx) (p : Bool) (o : Nat), valB p o A = true → ∀ x ∈ A, (x.k = 1 ∨ x.k = 2 ∨ x.k = 3 ∨ x.k = 4) ∧ x.n.length + x.v.length ≤ (prn A).length ∧ 0 ≤ x.o ∧ x.o ≤ ((o + (prn A).length : Nat) : Int)
  | [], _, _, _, x, hx => by cases hx
  | y :: A, p, o, h, x, hx => by
    unfold valB at h
    rw [Bool.and_eq_true, Bool.and_eq_true, decide_eq_true_eq] at h
    rw [prn_cons, List.length_append]
    rcases List.mem_cons.1 hx with rfl | hx
    · have hl := len_form h.1.1
      unfold lenX at hl
      refine ⟨?_, by omega, by omega, by omega⟩
      by_cases hk : x.k = 1
      · exact .inl hk
      · exact .inr (good_tag (ok_tag h.1.1 hk)).1
    · obtain ⟨h1, h2, h3, h4⟩ := val_mem A _ _ h.2 x hx
      exact ⟨h1, by omega, h3, by omega⟩
theorem val_b {A : List Lx} (h : valB false 0 A = true) (hl : A.length ≤ 1000) (hp : (prn A).length ≤ 65536) : LxB A := by
  refine ⟨hl, fun x hx => ?_⟩
  obtain ⟨h1, h2, h3, h4⟩ := val_mem A _ _ h x hx
  unfold I64 maxLen
  refine ⟨by omega, by omega, by omega, by omega, by omega⟩
theorem scan_b {s : Bs} {A : List Lx} (h : scanR s = (A, 0)) (hs : s.length ≤ 1000) : LxB A ∧ A.length ≤ s.length := by
  obtain ⟨h1, h2, h3⟩ := scan_iff.1 h
  have h4 := (val_len A _ _ h2).1
  rw [h3] at h4
  exact ⟨val_b h2 (by omega) (by rw [h3]; exact h1), h4⟩
theorem great_b {L : List Lx} (h : greatLB L = false) (hi : ∀ x ∈ L, InX x) : LxB L ∧ L.length ≤ 24 := by
  obtain ⟨h1, h2⟩ := greatL_no h (fun x hx => ⟨(hi x hx).2.2.1, (hi x hx).2.2.2⟩)
  exact ⟨⟨by omega, fun x hx => ⟨(hi x hx).1, (hi x hx).2.1, Nat.le_trans (hi x hx).2.2.1 (by unfold maxLen; decide), Nat.le_trans (hi x hx).2.2.2 (by unfold maxLen; decide), h2 x hx⟩⟩, h1⟩
theorem baL_nil : (baL []).toList = [] := by rw [ByteArray.toList_eq]; rfl
theorem chk_len {L : List Lx} (h : chkR L = 0) : (prn L).length ≤ 65536 ∧ valB false 0 L = true := by
  have := chk_iff.1 h
  exact ⟨this.2, this.1⟩
theorem max64k : 65536 ≤ maxLen := by unfold maxLen; omega
set_option maxHeartbeats 4000000 in
theorem lossless_law (H : MkOk) (s : Bs) (l : List Lx) (v : Value) (w : World) [T w] (hs : s.length ≤ maxLen) (hv : LexIn w v l) (hl : l.length ≤ maxLen) :
    Calls Tryd.prog 3 #[sV s, v] w fun e w' => e = .returned (.bool true) ∧ Below w.heap.size w w' := by
  obtain ⟨hv, hin⟩ := hv
  obtain ⟨a, cap, rfl⟩ := hv.slice
  have HV := Lib.hid hv
  try have tHV := T.below HV.out
  have hsz : (baL s).size = s.length := baL_size s
  by_cases h200 : 200 < s.length
  · have hd : decide ((200 : Int) < (s.length : Int)) = true := decide_eq_true (by omega)
    clear hs hv hin hl
    go_enter Tryd.func3, Tryd.ntmps3
    go_wp2_with fail
    refine (awake_any H w).mono ?_
    rintro e w1 ⟨rfl, h1⟩
    have B := Lib.hid h1
    try have tB := T.below B.out
    clear h1
    go_wp2
    go_ret
    exact ⟨rfl, B.out⟩
  · have hd : decide ((200 : Int) < (s.length : Int)) = false := decide_eq_false (by omega)
    obtain ⟨g, hg⟩ : ∃ g, greatLB l = g := ⟨_, rfl⟩
    have HG := Lib.hid (greatL_any l hl g hg _ w hv)
    cases g with
    | true =>
      clear hs hv hin hl hg
      go_enter Tryd.func3, Tryd.ntmps3
      go_wp2_with fail
      refine HG.out.mono ?_
      rintro e w1 ⟨rfl, h1⟩
      have B1 := Lib.hid h1
      try have tB1 := T.below B1.out
      clear h1
      go_wp2_with fail
      refine (awake_any H w1).mono ?_
      rintro e w2 ⟨rfl, h2⟩
      have B2 := Lib.hid (below_then B1.out h2)
      try have tB2 := T.below B2.out
      clear h2
      go_wp2
      go_ret
      exact ⟨rfl, B2.out⟩
    | false =>
      obtain ⟨hb, hl24⟩ := great_b hg hin
      have HLB := Lib.hid hb
      try have tHLB := T.below HLB.out
      obtain ⟨r, hr⟩ : ∃ r, scanR s = r := ⟨_, rfl⟩
      obtain ⟨A, e⟩ := r
      have HSC := Lib.hid (fun (W : World) [T W] => scan_at H s A e hr hs W)
      have HNIL := Lib.hid baL_nil
      -- the second part, from any world in which the list still stands
      have HPR := Lib.hid (fun t f (W : World) [T W] (h : printR l = (t, f)) (hv : LexAt W (.slice a l.length cap) l) => print_at H l t f h hb _ W hv)
      have HCH := Lib.hid (fun f (W : World) [T W] (h : chkR l = f) (hv : LexAt W (.slice a l.length cap) l) => check_at H l f h hb _ W hv)
      have HS2 := Lib.hid (fun (h : chkR l = 0) (W : World) [T W] => scan_at H (prn l) l 0 (print_scan h) (Nat.le_trans (chk_len h).1 max64k) W)
      have HSM := Lib.hid (fun u W (h1 : LexAt W (.slice a l.length cap) l) (h2 : LexAt W u l) => same_at l l true (decide_eq_true rfl) _ _ W h1 h2 (by omega) (by omega))
      have HA := Lib.hid (fun (W : World) [T W] => awake_any H W)
      by_cases he : e = 0
      · subst he
        obtain ⟨q1, q2⟩ := scan_b hr (by omega)
        obtain ⟨q3, q4⟩ := scan_print hr
        have HP1 := Lib.hid (fun u (W : World) [T W] (hv : LexAt W u A) => print_at H A s 0 q4 q1 u W hv)
        have HC1 := Lib.hid (fun u (W : World) [T W] (hv : LexAt W u A) => check_at H A 0 q3 q1 u W hv)
        clear hs hin hl hg hb hl24 hr q1 q2 q3 q4 hv
        go_enter Tryd.func3, Tryd.ntmps3
        go_wp2_with fail
        refine HG.out.mono ?_
        rintro e w1 ⟨rfl, h1⟩
        have B1 := Lib.hid h1
        try have tB1 := T.below B1.out
        clear h1
        go_wp2_with fail
        refine (HSC.out w1).mono ?_
        rintro e w2 ⟨u, rfl, hu, h2⟩
        have B2 := Lib.hid (below_then B1.out h2)
        try have tB2 := T.below B2.out
        have U2 := Lib.hid hu
        try have tU2 := T.below U2.out
        obtain ⟨ua, uc, rfl⟩ := hu.slice
        clear h2 hu
        go_wp2_with fail
        refine (HP1.out _ w2 U2.out).mono ?_
        rintro e w3 ⟨rfl, h3⟩
        have B3 := Lib.hid (below_then B2.out h3)
        try have tB3 := T.below B3.out
        have U3 := Lib.hid (U2.out.below h3)
        clear h3
        go_wp2_with fail
        refine (HC1.out _ w3 U3.out).mono ?_
        rintro e w4 ⟨rfl, h4⟩
        have B4 := Lib.hid (below_then B3.out h4)
        try have tB4 := T.below B4.out
        clear h4
        have V4 := Lib.hid (HV.out.below B4.out)
        by_cases hc : chkR l = 0
        · have hp : printR l = (prn l, 0) := by unfold printR; rw [if_pos hc]
          have HC := Lib.hid hc
          try have tHC := T.below HC.out
          have HP := Lib.hid hp
          try have tHP := T.below HP.out
          clear hc hp
          go_wp2_with fail
          refine (HPR.out _ _ w4 HP.out V4.out).mono ?_
          rintro e w5 ⟨rfl, h5⟩
          have B5 := Lib.hid (below_then B4.out h5)
          try have tB5 := T.below B5.out
          clear h5
          go_wp2_with fail
          refine (HS2.out HC.out w5).mono ?_
          rintro e w6 ⟨x, rfl, hx, h6⟩
          have B6 := Lib.hid (below_then B5.out h6)
          try have tB6 := T.below B6.out
          have X6 := Lib.hid hx
          try have tX6 := T.below X6.out
          obtain ⟨xa, xc, rfl⟩ := hx.slice
          clear h6 hx
          go_wp2_with fail
          refine (HSM.out _ w6 (HV.out.below B6.out) X6.out).mono ?_
          rintro e w7 ⟨rfl, h7⟩
          have B7 := Lib.hid (below_then B6.out h7)
          try have tB7 := T.below B7.out
          clear h7
          go_wp2_with fail
          refine (HA.out w7).mono ?_
          rintro e w8 ⟨rfl, h8⟩
          have B8 := Lib.hid (below_then B7.out h8)
          try have tB8 := T.below B8.out
          clear h8
          go_wp2
          go_ret
          exact ⟨rfl, B8.out⟩
        · have hp : printR l = ([], 1) := by unfold printR; rw [if_neg hc]
          obtain ⟨f, hf⟩ : ∃ f, chkR l = f := ⟨_, rfl⟩
          have hf0 : (f == 0) = false := by rw [← hf]; simpa using hc
          have hf1 : (f != 0) = true := by rw [← hf]; simpa using hc
          have hnil : (baL []).toList.isEmpty = true := by rw [baL_nil]; rfl
          have HC := Lib.hid hf
          try have tHC := T.below HC.out
          have HP := Lib.hid hp
          try have tHP := T.below HP.out
          clear hc hp hf
          go_wp2_with fail
          refine (HPR.out _ _ w4 HP.out V4.out).mono ?_
          rintro e w5 ⟨rfl, h5⟩
          have B5 := Lib.hid (below_then B4.out h5)
          try have tB5 := T.below B5.out
          clear h5
          go_wp2_with fail
          refine (HCH.out f w5 HC.out (HV.out.below B5.out)).mono ?_
          rintro e w6 ⟨rfl, h6⟩
          have B6 := Lib.hid (below_then B5.out h6)
          try have tB6 := T.below B6.out
          clear h6
          go_wp2_with fail
          refine (HA.out w6).mono ?_
          rintro e w7 ⟨rfl, h7⟩
          have B7 := Lib.hid (below_then B6.out h7)
          try have tB7 := T.below B7.out
          clear h7
          go_wp2
          go_ret
          exact ⟨rfl, B7.out⟩
      · have he0 : (e == 0) = false := by simpa using he
        have hA : A = [] := by have := scan_err s (by rw [hr]; exact he); rwa [hr] at this
        subst hA
        clear hs hin hl hg hb hl24 hr hv he
        go_enter Tryd.func3, Tryd.ntmps3
        go_wp2_with fail
        refine HG.out.mono ?_
        rintro e' w1 ⟨rfl, h1⟩
        have B1 := Lib.hid h1
        try have tB1 := T.below B1.out
        clear h1
        go_wp2_with fail
        refine (HSC.out w1).mono ?_
        rintro e' w2 ⟨u, rfl, hu, h2⟩
        have B2 := Lib.hid (below_then B1.out h2)
        try have tB2 := T.below B2.out
        obtain ⟨ua, uc, rfl⟩ := hu.slice
        have V4 := Lib.hid (HV.out.below B2.out)
        clear h2 hu
        by_cases hc : chkR l = 0
        · have hp : printR l = (prn l, 0) := by unfold printR; rw [if_pos hc]
          have HC := Lib.hid hc
          try have tHC := T.below HC.out
          have HP := Lib.hid hp
          try have tHP := T.below HP.out
          clear hc hp
          go_wp2_with fail
          refine (HPR.out _ _ w2 HP.out V4.out).mono ?_
          rintro e' w5 ⟨rfl, h5⟩
          have B5 := Lib.hid (below_then B2.out h5)
          try have tB5 := T.below B5.out
          clear h5
          go_wp2_with fail
          refine (HS2.out HC.out w5).mono ?_
          rintro e' w6 ⟨x, rfl, hx, h6⟩
          have B6 := Lib.hid (below_then B5.out h6)
          try have tB6 := T.below B6.out
          have X6 := Lib.hid hx
          try have tX6 := T.below X6.out
          obtain ⟨xa, xc, rfl⟩ := hx.slice
          clear h6 hx
          go_wp2_with fail
          refine (HSM.out _ w6 (HV.out.below B6.out) X6.out).mono ?_
          rintro e' w7 ⟨rfl, h7⟩
          have B7 := Lib.hid (below_then B6.out h7)
          try have tB7 := T.below B7.out
          clear h7
          go_wp2_with fail
          refine (HA.out w7).mono ?_
          rintro e' w8 ⟨rfl, h8⟩
          have B8 := Lib.hid (below_then B7.out h8)
          try have tB8 := T.below B8.out
          clear h8
          go_wp2
          go_ret
          exact ⟨rfl, B8.out⟩
        · have hp : printR l = ([], 1) := by unfold printR; rw [if_neg hc]
          obtain ⟨f, hf⟩ : ∃ f, chkR l = f := ⟨_, rfl⟩
          have hf0 : (f == 0) = false := by rw [← hf]; simpa using hc
          have hf1 : (f != 0) = true := by rw [← hf]; simpa using hc
          have hnil : (baL []).toList.isEmpty = true := by rw [baL_nil]; rfl
          have HC := Lib.hid hf
          try have tHC := T.below HC.out
          have HP := Lib.hid hp
          try have tHP := T.below HP.out
          clear hc hp hf
          go_wp2_with fail
          refine (HPR.out _ _ w2 HP.out V4.out).mono ?_
          rintro e' w5 ⟨rfl, h5⟩
          have B5 := Lib.hid (below_then B2.out h5)
          try have tB5 := T.below B5.out
          clear h5
          go_wp2_with fail
          refine (HCH.out f w5 HC.out (HV.out.below B5.out)).mono ?_
          rintro e' w6 ⟨rfl, h6⟩
          have B6 := Lib.hid (below_then B5.out h6)
          try have tB6 := T.below B6.out
          clear h6
          go_wp2_with fail
          refine (HA.out w6).mono ?_
          rintro e' w7 ⟨rfl, h7⟩
          have B7 := Lib.hid (below_then B6.out h7)
          try have tB7 := T.below B7.out
          clear h7
          go_wp2
          go_ret
          exact ⟨rfl, B7.out⟩
theorem lossless_w (H : MkOk) (w : World) [T w] (s : ByteArray) (v : Value) (l : List Lx) (hs : s.size ≤ maxLen) (hv : LexIn w v l) (hl : l.length ≤ maxLen) :
    Calls Tryd.prog 3 #[.string s, v] w fun e w' => e = .returned (.bool true) ∧ Below w.heap.size w w' := by
  have := lossless_law H s.data.toList l v w hs hv hl
  unfold sV at this
  rwa [baL_list] at this
end Go.Proofs.YtdgihkgomfpmoaaDoor
