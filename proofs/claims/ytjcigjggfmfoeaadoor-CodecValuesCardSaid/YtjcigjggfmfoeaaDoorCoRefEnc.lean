/- The reference's Encode. -/
import Derived.Test.YtjcigjggfmfoeaaDoorCoAll
import Derived.Test.YtjcigjggfmfoeaaDoorCoBuild
import Derived.Test.YtjcigjggfmfoeaaDoorCoLawM
import Derived.Deep.AppendLies
import Derived.Deep.Cut
import Derived.Lib.AppendStr
namespace Go.Proofs.YtjcigjggfmfoeaaDoor
set_option linter.unusedSimpArgs false
set_option linter.unusedVariables false
set_option maxRecDepth 100000
open Go.RowKit Go.Deep

/-- the bytes of a slice that the call has made -/
abbrev BytesO (W : World) (base : Nat) (s : Value) (bs : List UInt8) : Prop := W.ownsRow base 5 1 s bs.length (Lib.byteCells bs)
def EncR (base : Nat) (bs : List UInt8) (w : World) (e : Ending) (w' : World) : Prop := ∃ s', e = .returned s' ∧ BytesO w' base s' bs ∧ Below base w w' ∧ Keep w w'
theorem bytes_form {W : World} {base : Nat} {s : Value} {bs : List UInt8} (h : BytesO W base s bs) : ∃ ao cap, s = .slice ao bs.length cap := by
  rcases h.2 with ⟨rfl, h0⟩ | ⟨g, cap, cur, rfl, _⟩
  · exact ⟨none, 0, by rw [h0]⟩
  · exact ⟨_, _, rfl⟩
theorem bytes_keep {W W' : World} {base n : Nat} {s : Value} {xs : List Value} (h : W.ownsRow base 5 1 s n xs) (hb : Below W.heap.size W W') : W'.ownsRow base 5 1 s n xs :=
  h.kept ⟨hb.os, hb.tape, hb.output, hb.size, fun k hk _ => hb.block k hk⟩ (row := none) (by cases s.ownBlock <;> simp)
theorem keep_below {W W' : World} (h : Below W.heap.size W W') : Keep W W' := fun k c t hk _ _ => (h.block k (lt_of_heap hk)).trans hk
/-- one more step on such bytes -/
theorem grow_step {W W' : World} {base n : Nat} {s : Value} {xs : List Value} (h : W.ownsRow base 5 1 s n xs) (hg : W.grownBy W' s.ownBlock) (hb : base ≤ W.heap.size) : Below base W W' ∧ Keep W W' :=
  ⟨(Below.refl _ _).grown hg hb (fun k hk => (h.lt k hk).1), Keep.grown h hg⟩
theorem own_form {W : World} {base n : Nat} {s : Value} {e : TypeId} {sz : Nat} {xs : List Value} (h : W.ownsRow base e sz s n xs) : ∃ ao cap, s = .slice ao n cap := by
  rcases h.2 with ⟨rfl, rfl⟩ | ⟨g, cap, cur, rfl, _⟩
  · exact ⟨none, 0, rfl⟩
  · exact ⟨_, _, rfl⟩
theorem encs_take_le (l : List Val) (j : Nat) : (encs (l.take j)).length ≤ (encs l).length := by
  have h : encs l = encs (l.take j) ++ encs (l.drop j) := by rw [← encs_append, List.take_append_drop]
  rw [h, List.length_append]; omega
theorem bytes_of {W : World} {base n : Nat} {s : Value} {xs : List Value} {bs : List UInt8} (h : W.ownsRow base 5 1 s n xs) (hn : n = bs.length) (hx : xs = Lib.byteCells bs) : BytesO W base s bs := by subst hn hx; exact h
set_option maxHeartbeats 4000000 in
theorem refEncode_any (w₀ : World) (hT : Tab w₀) (x : Val) : ∀ (v : Value) (P : Nat → Prop) (w : World) (base : Nat) (s : Value) (bs : List UInt8), VAt w₀ P v x → Below w₀.heap.size w₀ w → w₀.heap.size ≤ base → base ≤ w.heap.size → BytesO w base s bs → bs.length + (enc x).length ≤ 1048576 →
    Calls Tryd.prog 39 #[s, v] w (EncR base (bs ++ enc x) w) := by
  refine Val.ind (P := fun x => ∀ (v : Value) (P : Nat → Prop) (w : World) (base : Nat) (s : Value) (bs : List UInt8), VAt w₀ P v x → Below w₀.heap.size w₀ w → w₀.heap.size ≤ base → base ≤ w.heap.size → BytesO w base s bs → bs.length + (enc x).length ≤ 1048576 →
    Calls Tryd.prog 39 #[s, v] w (EncR base (bs ++ enc x) w)) ?_ x
  intro k nn t l ih v P w base s bs hv hp hb0 hbs hO hlen
  obtain ⟨h1, h2, h3, h4, a, c, rfl, hs⟩ := vat_of hv
  obtain ⟨ao, cp, rfl⟩ := bytes_form hO
  obtain ⟨W0, hW0⟩ : ∃ X, w.alloc (.cells #[intV k, intV nn, .string t, .slice a l.length c] 24) = X := ⟨_, rfl⟩
  have hbx : Below w.heap.size w W0 := by rw [← hW0]; exact below_box0 w _
  have HX0 := Lib.hid (show W0.heap[w.heap.size]? = some (.cells #[intV k, intV nn, .string t, .slice a l.length c] 24 (0, 0)) by rw [← hW0]; exact heap_alloc_new _ _)
  have HBX := Lib.hid hbx
  have HB0 := Lib.hid (hbx.mono hbs)
  have HK0 := Lib.hid (Keep.refl W0)
  have HO0 := Lib.hid (bytes_keep hO hbx)
  have hbs0 : base ≤ W0.heap.size := by have := hbx.size; omega
  have HP := Lib.hid hp
  have HT := Lib.hid hT
  have HS := Lib.hid hs
  have IH := Lib.hid ih
  have HW0 := Lib.hid hW0
  have hgt : decide ((1048576 : Int) < bs.length) = false := by simp; omega
  have hgt' : (bs.length : Int) ≤ 1048576 := by omega
  obtain ⟨i0, hi, hz0, hz1, hz2⟩ := info_parts info_byte
  obtain ⟨E, hE⟩ : ∃ E, enc (.mk k nn t l) = E := ⟨_, rfl⟩
  rw [hE] at hlen ⊢
  have HE := Lib.hid hE
  clear hv hO hbx hp hs ih hW0 hE
  obtain ⟨c0, c1, c2, c3⟩ := heap4 HX0.out
  by_cases k1 : k = 1
  · have kb : (k == 1) = true := by simpa using k1
    have hen : E = 105 :: (Lib.itoa nn ++ [59]) := by rw [← HE.out, enc, if_pos k1]
    obtain ⟨st, hst⟩ : ∃ st : ByteArray, st.data.toList = Lib.itoa nn := ⟨⟨(Lib.itoa nn).toArray⟩, by simp⟩
    have hsz : st.size ≤ 21 := by rw [← size_list, hst]; exact Lib.itoa_length_le nn h1 h2
    have HST := Lib.hid hst
    have HEN := Lib.hid hen
    clear hen hst k1
    go_enter Tryd.func39, Tryd.ntmps39
    go_upto_region 1 with fail
    rw [HW0.out]
    have HL0 := Lib.hid ((HO0.out).alloc (.cells #[.int .u8 105] 5))
    have HN0 := Lib.hid (World.news_of_block (heap_alloc_new W0 (.cells #[.int .u8 105] 5)))
    have HS0 := Lib.hid (show (W0.alloc (.cells #[.int .u8 105] 5)).heap.size = W0.heap.size + 1 by simp)
    go_wp2_with (at_builtin; go_loud (refine wpList_append_lies _ (by rfl) _ _ 48 (by rfl) base 5 i0 (.int .u8 0) 1 1 Tryd.underlying48 hi hz0 hz1 hz2 (by rfl) (by decide) _ _ _ (by rfl) HL0.out ⟨W0.heap.size, 0, none⟩ 1 1 [.int .u8 105] (by rfl) (by rfl) HN0.out (by intro u hu; rw [List.mem_singleton] at hu; subst hu; rfl) (by decide) (by unfold maxLen; omega) (by omega) (by rw [HS0.out]; omega) (W0.heap.size + 1) HS0.out ?_))
    intro g0 cap0 W1 hown hgrow _ _
    have hst := grow_step HL0.out hgrow (by rw [HS0.out]; omega)
    have hbl := below_box0 W0 (.cells #[.int .u8 105] 5)
    have HB1 := Lib.hid ((HB0.out.trans (hbl.mono hbs0)).trans hst.1)
    have HK1 := Lib.hid ((HK0.out.trans (keep_below hbl)).trans hst.2)
    have HX1 := Lib.hid (HK1.out _ _ _ HX0.out (by decide) (by decide))
    have hbs1 : base ≤ W1.heap.size := by have := HB1.out.size; omega
    have HO1 := Lib.hid hown
    clear hown hgrow hst hbl c0 c1 c2 c3
    obtain ⟨c0, c1, c2, c3⟩ := heap4 HX1.out
    go_wp2_with fail
    refine (itoa_at nn (by omega) (by omega) st HST.out W1 (HT.out.below (HP.out.trans (HB1.out.mono hb0)))).mono ?_
    rintro e W2 ⟨rfl, hc⟩
    have HB2 := Lib.hid (HB1.out.trans (hc.mono hbs1))
    have HK2 := Lib.hid (HK1.out.trans (keep_below hc))
    have HX2 := Lib.hid (HK2.out _ _ _ HX0.out (by decide) (by decide))
    have hbs2 : base ≤ W2.heap.size := by have := HB2.out.size; omega
    have HO2 := Lib.hid (bytes_keep HO1.out hc)
    clear hc c0 c1 c2 c3
    obtain ⟨c0, c1, c2, c3⟩ := heap4 HX2.out
    go_wp2_with (at_builtin; go_loud (refine Lib.wpList_append_own_string _ (by rfl) _ _ 48 9 (by rfl) base 5 i0 Tryd.underlying48 Tryd.underlying9 hi hz0 hz1 hz2 _ _ _ (by rfl) HO2.out st (by rfl) (by unfold maxLen; omega) (by omega) hbs2 ?_))
    intro v2 W3 hown hgrow _
    obtain ⟨ao2, cap2, rfl⟩ := own_form hown
    have hst := grow_step HO2.out hgrow hbs2
    have HB3 := Lib.hid (HB2.out.trans hst.1)
    have HK3 := Lib.hid (HK2.out.trans hst.2)
    have HX3 := Lib.hid (HK3.out _ _ _ HX0.out (by decide) (by decide))
    have hbs3 : base ≤ W3.heap.size := by have := HB3.out.size; omega
    have HO3 := Lib.hid hown
    clear hown hgrow hst c0 c1 c2 c3
    obtain ⟨c0, c1, c2, c3⟩ := heap4 HX3.out
    have HL3 := Lib.hid ((HO3.out).alloc (.cells #[.int .u8 59] 5))
    have HN3 := Lib.hid (World.news_of_block (heap_alloc_new W3 (.cells #[.int .u8 59] 5)))
    have HS3 := Lib.hid (show (W3.alloc (.cells #[.int .u8 59] 5)).heap.size = W3.heap.size + 1 by simp)
    go_wp2_with (at_builtin; go_loud (refine wpList_append_lies _ (by rfl) _ _ 48 (by rfl) base 5 i0 (.int .u8 0) 1 1 Tryd.underlying48 hi hz0 hz1 hz2 (by rfl) (by decide) _ _ _ (by rfl) HL3.out ⟨W3.heap.size, 0, none⟩ 1 1 [.int .u8 59] (by rfl) (by rfl) HN3.out (by intro u hu; rw [List.mem_singleton] at hu; subst hu; rfl) (by decide) (by unfold maxLen; omega) (by omega) (by rw [HS3.out]; omega) (W3.heap.size + 1) HS3.out ?_))
    intro g3 cap3 W4 hown hgrow _ _
    have hst := grow_step HL3.out hgrow (by rw [HS3.out]; omega)
    have hbl := below_box0 W3 (.cells #[.int .u8 59] 5)
    have HB4 := Lib.hid ((HB3.out.trans (hbl.mono hbs3)).trans hst.1)
    have HK4 := Lib.hid ((HK3.out.trans (keep_below hbl)).trans hst.2)
    have HX4 := Lib.hid (HK4.out _ _ _ HX0.out (by decide) (by decide))
    have hbs4 : base ≤ W4.heap.size := by have := HB4.out.size; omega
    have HO4 := Lib.hid hown
    clear hown hgrow hst hbl c0 c1 c2 c3
    obtain ⟨c0, c1, c2, c3⟩ := heap4 HX4.out
    go_wp2
    go_ret
    refine ⟨_, rfl, ?_, HB4.out, (keep_below HBX.out).trans HK4.out⟩
    have ho := HO4.out
    refine bytes_of ho ?_ ?_
    · rw [HEN.out, List.length_append, List.length_cons, List.length_append, ← HST.out, size_list]; simp; omega
    · rw [HEN.out, Lib.strCells_eq, HST.out]; simp [Lib.byteCells]
  by_cases k2 : k = 2
  · have kb1 : (k == 1) = false := by simpa using k1
    have kb : (k == 2) = true := by simpa using k2
    have hen : E = 115 :: (Lib.itoa t.size ++ 58 :: t.data.toList) := by rw [← HE.out, enc, if_neg k1, if_pos k2]
    obtain ⟨st, hst⟩ : ∃ st : ByteArray, st.data.toList = Lib.itoa t.size := ⟨⟨(Lib.itoa t.size).toArray⟩, by simp⟩
    have hsz : st.size ≤ 21 := by rw [← size_list, hst]; exact Lib.itoa_length_le _ (by omega) (by omega)
    have htz : t.size ≤ 1048576 := by rw [hen] at hlen; simp only [List.length_cons, List.length_append, size_list] at hlen; omega
    have HST := Lib.hid hst
    have HEN := Lib.hid hen
    clear hen hst k1 k2
    go_enter Tryd.func39, Tryd.ntmps39
    go_upto_region 1 with fail
    rw [HW0.out]
    have HL0 := Lib.hid ((HO0.out).alloc (.cells #[.int .u8 115] 5))
    have HN0 := Lib.hid (World.news_of_block (heap_alloc_new W0 (.cells #[.int .u8 115] 5)))
    have HS0 := Lib.hid (show (W0.alloc (.cells #[.int .u8 115] 5)).heap.size = W0.heap.size + 1 by simp)
    go_wp2_with (at_builtin; go_loud (refine wpList_append_lies _ (by rfl) _ _ 48 (by rfl) base 5 i0 (.int .u8 0) 1 1 Tryd.underlying48 hi hz0 hz1 hz2 (by rfl) (by decide) _ _ _ (by rfl) HL0.out ⟨W0.heap.size, 0, none⟩ 1 1 [.int .u8 115] (by rfl) (by rfl) HN0.out (by intro u hu; rw [List.mem_singleton] at hu; subst hu; rfl) (by decide) (by unfold maxLen; omega) (by omega) (by rw [HS0.out]; omega) (W0.heap.size + 1) HS0.out ?_))
    intro g0 cap0 W1 hown hgrow _ _
    have hst := grow_step HL0.out hgrow (by rw [HS0.out]; omega)
    have hbl := below_box0 W0 (.cells #[.int .u8 115] 5)
    have HB1 := Lib.hid ((HB0.out.trans (hbl.mono hbs0)).trans hst.1)
    have HK1 := Lib.hid ((HK0.out.trans (keep_below hbl)).trans hst.2)
    have HX1 := Lib.hid (HK1.out _ _ _ HX0.out (by decide) (by decide))
    have hbs1 : base ≤ W1.heap.size := by have := HB1.out.size; omega
    have HO1 := Lib.hid hown
    clear hown hgrow hst hbl c0 c1 c2 c3
    obtain ⟨c0, c1, c2, c3⟩ := heap4 HX1.out
    go_wp2_with fail
    refine (itoa_at t.size (by omega) (by omega) st HST.out W1 (HT.out.below (HP.out.trans (HB1.out.mono hb0)))).mono ?_
    rintro e W2 ⟨rfl, hc⟩
    have HB2 := Lib.hid (HB1.out.trans (hc.mono hbs1))
    have HK2 := Lib.hid (HK1.out.trans (keep_below hc))
    have HX2 := Lib.hid (HK2.out _ _ _ HX0.out (by decide) (by decide))
    have hbs2 : base ≤ W2.heap.size := by have := HB2.out.size; omega
    have HO2 := Lib.hid (bytes_keep HO1.out hc)
    clear hc c0 c1 c2 c3
    obtain ⟨c0, c1, c2, c3⟩ := heap4 HX2.out
    go_wp2_with (at_builtin; go_loud (refine Lib.wpList_append_own_string _ (by rfl) _ _ 48 9 (by rfl) base 5 i0 Tryd.underlying48 Tryd.underlying9 hi hz0 hz1 hz2 _ _ _ (by rfl) HO2.out st (by rfl) (by unfold maxLen; omega) (by omega) hbs2 ?_))
    intro v2 W3 hown hgrow _
    obtain ⟨ao2, cap2, rfl⟩ := own_form hown
    have hst := grow_step HO2.out hgrow hbs2
    have HB3 := Lib.hid (HB2.out.trans hst.1)
    have HK3 := Lib.hid (HK2.out.trans hst.2)
    have HX3 := Lib.hid (HK3.out _ _ _ HX0.out (by decide) (by decide))
    have hbs3 : base ≤ W3.heap.size := by have := HB3.out.size; omega
    have HO3 := Lib.hid hown
    clear hown hgrow hst c0 c1 c2 c3
    obtain ⟨c0, c1, c2, c3⟩ := heap4 HX3.out
    have HL3 := Lib.hid ((HO3.out).alloc (.cells #[.int .u8 58] 5))
    have HN3 := Lib.hid (World.news_of_block (heap_alloc_new W3 (.cells #[.int .u8 58] 5)))
    have HS3 := Lib.hid (show (W3.alloc (.cells #[.int .u8 58] 5)).heap.size = W3.heap.size + 1 by simp)
    go_wp2_with (at_builtin; go_loud (refine wpList_append_lies _ (by rfl) _ _ 48 (by rfl) base 5 i0 (.int .u8 0) 1 1 Tryd.underlying48 hi hz0 hz1 hz2 (by rfl) (by decide) _ _ _ (by rfl) HL3.out ⟨W3.heap.size, 0, none⟩ 1 1 [.int .u8 58] (by rfl) (by rfl) HN3.out (by intro u hu; rw [List.mem_singleton] at hu; subst hu; rfl) (by decide) (by unfold maxLen; omega) (by omega) (by rw [HS3.out]; omega) (W3.heap.size + 1) HS3.out ?_))
    intro g3 cap3 W4 hown hgrow _ _
    have hst := grow_step HL3.out hgrow (by rw [HS3.out]; omega)
    have hbl := below_box0 W3 (.cells #[.int .u8 58] 5)
    have HB4 := Lib.hid ((HB3.out.trans (hbl.mono hbs3)).trans hst.1)
    have HK4 := Lib.hid ((HK3.out.trans (keep_below hbl)).trans hst.2)
    have HX4 := Lib.hid (HK4.out _ _ _ HX0.out (by decide) (by decide))
    have hbs4 : base ≤ W4.heap.size := by have := HB4.out.size; omega
    have HO4 := Lib.hid hown
    clear hown hgrow hst hbl c0 c1 c2 c3
    obtain ⟨c0, c1, c2, c3⟩ := heap4 HX4.out
    go_wp2_with (at_builtin; go_loud (refine Lib.wpList_append_own_string _ (by rfl) _ _ 48 9 (by rfl) base 5 i0 Tryd.underlying48 Tryd.underlying9 hi hz0 hz1 hz2 _ _ _ (by rfl) HO4.out t (by rfl) (by unfold maxLen; omega) (by omega) hbs4 ?_))
    intro v4 W5 hown hgrow _
    obtain ⟨ao4, cap4, rfl⟩ := own_form hown
    have hst := grow_step HO4.out hgrow hbs4
    have HB5 := Lib.hid (HB4.out.trans hst.1)
    have HK5 := Lib.hid (HK4.out.trans hst.2)
    have HX5 := Lib.hid (HK5.out _ _ _ HX0.out (by decide) (by decide))
    have hbs5 : base ≤ W5.heap.size := by have := HB5.out.size; omega
    have HO5 := Lib.hid hown
    clear hown hgrow hst c0 c1 c2 c3
    obtain ⟨c0, c1, c2, c3⟩ := heap4 HX5.out
    go_wp2
    go_ret
    refine ⟨_, rfl, ?_, HB5.out, (keep_below HBX.out).trans HK5.out⟩
    have ho := HO5.out
    refine bytes_of ho ?_ ?_
    · rw [HEN.out, List.length_append, List.length_cons, List.length_append, List.length_cons, ← HST.out, size_list, size_list]; omega
    · rw [HEN.out, Lib.strCells_eq, Lib.strCells_eq, HST.out]; simp [Lib.byteCells]
  have kb1 : (k == 1) = false := by simpa using k1
  have kb2 : (k == 2) = false := by simpa using k2
  have hen : E = 108 :: (encs l ++ [101]) := by rw [← HE.out, enc, if_neg k1, if_neg k2]
  have HEN := Lib.hid hen
  clear hen k1 k2
  go_enter Tryd.func39, Tryd.ntmps39
  go_upto_region 1 with fail
  rw [HW0.out]
  have HL0 := Lib.hid ((HO0.out).alloc (.cells #[.int .u8 108] 5))
  have HN0 := Lib.hid (World.news_of_block (heap_alloc_new W0 (.cells #[.int .u8 108] 5)))
  have HS0 := Lib.hid (show (W0.alloc (.cells #[.int .u8 108] 5)).heap.size = W0.heap.size + 1 by simp)
  go_wp2_with (at_builtin; go_loud (refine wpList_append_lies _ (by rfl) _ _ 48 (by rfl) base 5 i0 (.int .u8 0) 1 1 Tryd.underlying48 hi hz0 hz1 hz2 (by rfl) (by decide) _ _ _ (by rfl) HL0.out ⟨W0.heap.size, 0, none⟩ 1 1 [.int .u8 108] (by rfl) (by rfl) HN0.out (by intro u hu; rw [List.mem_singleton] at hu; subst hu; rfl) (by decide) (by unfold maxLen; omega) (by omega) (by rw [HS0.out]; omega) (W0.heap.size + 1) HS0.out ?_))
  intro g0 cap0 W1 hown hgrow _ _
  have hst := grow_step HL0.out hgrow (by rw [HS0.out]; omega)
  have hbl := below_box0 W0 (.cells #[.int .u8 108] 5)
  have HB1 := Lib.hid ((HB0.out.trans (hbl.mono hbs0)).trans hst.1)
  have HK1 := Lib.hid ((HK0.out.trans (keep_below hbl)).trans hst.2)
  have HX1 := Lib.hid (HK1.out _ _ _ HX0.out (by decide) (by decide))
  have hbs1 : base ≤ W1.heap.size := by have := HB1.out.size; omega
  have HO1 := Lib.hid hown
  clear hown hgrow hst hbl c0 c1 c2 c3
  obtain ⟨c0, c1, c2, c3⟩ := heap4 HX1.out
  have HO1' := Lib.hid (bytes_of (bs := bs ++ 108 :: encs (l.take 0)) HO1.out (by simp [encs]) (by simp [encs, Lib.byteCells]))
  go_wp2
  go_loopw [0, 5] (fun v0 i wr => ∃ (j : Nat), j ≤ l.length ∧ i = .int .i64 j ∧ Hid (BytesO wr base v0 (bs ++ 108 :: encs (l.take j))) ∧ Below base w wr ∧ Keep W0 wr) (fun _ i _ => l.length - (intOf i).toNat)
  case atStart => exact ⟨0, Nat.zero_le _, rfl, HO1', HB1.out, HK1.out⟩
  case round =>
    obtain ⟨j, hj, rfl, HOJ, hBJ, hKJ⟩ := hrel
    obtain ⟨W5, rfl⟩ : ∃ x, x = wr := ⟨_, rfl⟩
    obtain ⟨ao5, cp5, hf⟩ := bytes_form HOJ.out
    subst hf
    have HB5 := Lib.hid hBJ
    have HK5 := Lib.hid hKJ
    have HX5 := Lib.hid (hKJ _ _ _ HX0.out (by decide) (by decide))
    have hbs5 : base ≤ W5.heap.size := by have := hBJ.size; omega
    clear hBJ hKJ c0 c1 c2 c3
    obtain ⟨c0, c1, c2, c3⟩ := heap4 HX5.out
    have hHN := HEN.out
    have hLen : E.length = (encs l).length + 2 := by rw [hHN]; simp
    clear hHN
    have hle := encs_take_le l j
    obtain ⟨nj, hnj⟩ : ∃ nj, (bs ++ 108 :: encs (l.take j)).length = nj := ⟨_, rfl⟩
    have hnj' : nj = bs.length + 1 + (encs (l.take j)).length := by rw [← hnj]; simp; omega
    have hnb : nj + 1 ≤ 1048576 := by omega
    have HNJ := Lib.hid (And.intro hnj hnj')
    have HLE := Lib.hid (And.intro hLen hle)
    have HOJ' := Lib.hid (show W5.ownsRow base 5 1 (.slice ao5 nj cp5) nj (Lib.byteCells (bs ++ 108 :: encs (l.take j))) by rw [← hnj]; exact HOJ.out)
    rw [hnj] at HOJ ⊢
    clear hnj hnj' hLen hle
    by_cases hlt : j < l.length
    · have hPk := HP.out.trans (HB5.out.mono hb0)
      obtain ⟨b, off, sa, sb, rfl, _, hb, q0, q1, q2, q3, hx⟩ := HS.out.elem' hlt
      have r0 := (World.cell?_of_block (a := ⟨b, off + j * 4, none⟩) (hPk.block b hb)).trans q0
      have r1 := (World.cell?_of_block (a := ⟨b, off + j * 4 + 1, none⟩) (hPk.block b hb)).trans q1
      have r2 := (World.cell?_of_block (a := ⟨b, off + j * 4 + 2, none⟩) (hPk.block b hb)).trans q2
      have r3 := (World.cell?_of_block (a := ⟨b, off + j * 4 + 3, none⟩) (hPk.block b hb)).trans q3
      have het := encs_take_le l (j + 1)
      have htk : encs (l.take (j + 1)) = encs (l.take j) ++ enc l[j] := by rw [List.take_succ_eq_append_getElem hlt, encs_append, encs, encs, List.append_nil]
      rw [htk, List.length_append] at het
      have HREC := Lib.hid (IH.out l[j] (List.getElem_mem hlt) _ P W5 base (.slice ao5 nj cp5) (bs ++ 108 :: encs (l.take j)) hx hPk hb0 hbs5 (by show W5.ownsRow base _ 1 _ _ _; rw [HNJ.out.1]; exact HOJ'.out) (by rw [HNJ.out.1, HNJ.out.2]; have := HLE.out.1; omega))
      have HTK := Lib.hid htk
      clear hPk hb q0 q1 q2 q3 hx htk het
      go_wp2_with fail
      refine HREC.out.mono ?_
      rintro e W6 ⟨s', rfl, ho', hB', hK'⟩
      obtain ⟨ao6, cp6, hf6⟩ := bytes_form ho'
      subst hf6
      have HO6 := Lib.hid ho'
      have HB6 := Lib.hid (HB5.out.trans hB')
      have HK6 := Lib.hid (HK5.out.trans hK')
      clear ho' hB' hK' HREC r0 r1 r2 r3 c0 c1 c2 c3
      go_wp2_with fail
      refine ⟨⟨j + 1, by omega, by go_num, Lib.hid ?_, HB6.out, HK6.out⟩, by simp [intOf]; omega⟩
      have := HO6.out
      rw [HTK.out]
      simpa using this
    · obtain rfl : j = l.length := by omega
      have HO5 := HOJ'
      have HL5 := Lib.hid ((HO5.out).alloc (.cells #[.int .u8 101] 5))
      have HN5 := Lib.hid (World.news_of_block (heap_alloc_new W5 (.cells #[.int .u8 101] 5)))
      have HS5 := Lib.hid (show (W5.alloc (.cells #[.int .u8 101] 5)).heap.size = W5.heap.size + 1 by simp)
      go_wp2_with (at_builtin; go_loud (refine wpList_append_lies _ (by rfl) _ _ 48 (by rfl) base 5 i0 (.int .u8 0) 1 1 Tryd.underlying48 hi hz0 hz1 hz2 (by rfl) (by decide) _ _ _ (by rfl) HL5.out ⟨W5.heap.size, 0, none⟩ 1 1 [.int .u8 101] (by rfl) (by rfl) HN5.out (by intro u hu; rw [List.mem_singleton] at hu; subst hu; rfl) (by decide) (by unfold maxLen; omega) (by omega) (by rw [HS5.out]; omega) (W5.heap.size + 1) HS5.out ?_))
      intro g5 cap5 W6 hown hgrow _ _
      have hst := grow_step HL5.out hgrow (by rw [HS5.out]; omega)
      have hbl := below_box0 W5 (.cells #[.int .u8 101] 5)
      have HB6 := Lib.hid ((HB5.out.trans (hbl.mono hbs5)).trans hst.1)
      have HK6 := Lib.hid ((HK5.out.trans (keep_below hbl)).trans hst.2)
      have HX6 := Lib.hid (HK6.out _ _ _ HX0.out (by decide) (by decide))
      have hbs6 : base ≤ W6.heap.size := by have := HB6.out.size; omega
      have HO6 := Lib.hid hown
      clear hown hgrow hst hbl c0 c1 c2 c3
      obtain ⟨c0, c1, c2, c3⟩ := heap4 HX6.out
      go_wp2
      go_ret
      refine ⟨_, rfl, ?_, HB6.out, (keep_below HBX.out).trans HK6.out⟩
      have ho := HO6.out
      refine bytes_of ho ?_ ?_
      · rw [HNJ.out.2, HEN.out, List.take_length]; simp; omega
      · rw [HEN.out]; simp [Lib.byteCells]
end Go.Proofs.YtjcigjggfmfoeaaDoor
