/- The reference's Encode and Size. -/
import Derived.Test.YtjcigjggfmfoeaaDoorCoRefEnc
import Derived.Lib.ConvBytes
import Derived.Lib.BufferRead
namespace Go.Proofs.YtjcigjggfmfoeaaDoor
set_option linter.unusedSimpArgs false
set_option linter.unusedVariables false
set_option maxRecDepth 100000
open Go.RowKit Go.Deep

theorem conv_bytes {P : Program} {w : World} {base src dst e : TypeId} {v : Value} {n : Nat} {l : List UInt8} (hs : P.underlying src = some (.slice e)) (he : P.underlying e = some (.int .u8)) (hd : P.underlying dst = some .string)
    (h : w.ownsRow base e 1 v n (Lib.byteCells l)) : (convert src dst v).run P w = .ok (.string ⟨l.toArray⟩) w := by
  have hl := h.1
  rw [Lib.byteCells_length, Nat.mul_one] at hl
  subst hl
  have hc := fun g hg => h.cells (g := g) hg
  rcases h.2 with ⟨rfl, hn⟩ | ⟨g, cap, cur, rfl, _⟩
  · have : l = [] := List.length_eq_zero_iff.1 hn
    subst this
    exact Lib.run_convert_nil_bytes w src dst e 0 hs he hd
  · exact run_convert_bytes_back w src dst e ⟨g, 0, none⟩ cap l hs he hd (fun j hj => hc g rfl j _ (by simp [Lib.byteCells, hj]))
set_option maxHeartbeats 2000000 in
theorem refEnc_at (x : Val) (v : Value) (P : Nat → Prop) (w : World) (hv : VAt w P v x) (ht : tot x ≤ 65536) (hl : (enc x).length ≤ 1048576) (hT : Tab w) (r : Int) (hr : chk x = r) (s : ByteArray) (hs : s = if r = 0 then ⟨(enc x).toArray⟩ else ⟨#[]⟩) :
    Calls Tryd.prog 13 #[v] w fun e w' => e = .returned (.tuple #[.string s, intV r]) ∧ Below w.heap.size w w' := by
  obtain ⟨sa, sc, rfl, _⟩ := hv.agg
  obtain ⟨w1, hw1⟩ : ∃ X, w.alloc (.cells #[intV x.kd, intV x.nm, .string x.tx, .slice sa x.its.length sc] 24) = X := ⟨_, rfl⟩
  have hb1 : Below w.heap.size w w1 := by rw [← hw1]; exact below_box0 w _
  have HB1 := Lib.hid hb1
  have HX1 := Lib.hid (show w1.heap[w.heap.size]? = some (.cells #[intV x.kd, intV x.nm, .string x.tx, .slice sa x.its.length sc] 24 (0, 0)) by rw [← hw1]; exact heap_alloc_new _ _)
  have HV1 := Lib.hid (hv.below hb1)
  have HCK := Lib.hid (refCheck_any x _ P w1 (hv.below hb1) ht)
  rw [hr] at HCK
  have HW1 := Lib.hid hw1
  have HT := Lib.hid hT
  have HL := Lib.hid hl
  have HSS := Lib.hid hs
  clear hv hw1 hb1 hr hT hl hs
  obtain ⟨c0, c1, c2, c3⟩ := heap4 HX1.out
  go_enter Tryd.func13, Tryd.ntmps13
  go_upto_region 1 with fail
  rw [HW1.out]
  go_wp2_with fail
  refine HCK.out.mono ?_
  rintro e w2 ⟨rfl, h2⟩
  have HB2 := Lib.hid (below_seq HB1.out h2 HB1.out.size)
  have HX2 := Lib.hid ((h2.block _ (heap_lt HX1.out)).trans HX1.out)
  have HV2 := Lib.hid (HV1.out.below h2)
  clear h2 c0 c1 c2 c3 HCK
  by_cases hr0 : r = 0
  · have hrb : (r != 0) = false := by simpa using hr0
    have HENC := Lib.hid (refEncode_any w2 (HT.out.below HB2.out) x _ P w2 w2.heap.size (.slice none 0 0) [] HV2.out (Below.refl _ _) (Nat.le_refl _) (Nat.le_refl _) (World.ownsRow_nil _ _ _ _) (by have := HL.out; simpa using this))
    have hss := HSS.out
    rw [if_pos hr0] at hss
    subst hr0
    obtain ⟨c0, c1, c2, c3⟩ := heap4 HX2.out
    go_wp2_with fail
    refine HENC.out.mono ?_
    rintro e w3 ⟨s', rfl, ho, hb3, _⟩
    rw [List.nil_append] at ho
    obtain ⟨ao, cp, rfl⟩ := bytes_form ho
    have hcv := conv_bytes (P := Tryd.prog) (src := 48) (dst := 9) Tryd.underlying48 Tryd.underlying5 Tryd.underlying9 ho
    rw [← hss] at hcv
    have HB3 := Lib.hid (below_seq HB2.out hb3 HB2.out.size)
    obtain ⟨n, hn⟩ : ∃ n, (enc x).length = n := ⟨_, rfl⟩
    rw [hn] at hcv ⊢
    have hnb : decide ((1048576 : Int) < n) = false := by have := HL.out; simp; omega
    have hnb' : (n : Int) ≤ 1048576 := by have := HL.out; omega
    clear ho hb3 hn c0 c1 c2 c3 HENC hss
    go_wp2_with fail
    go_ret2
    exact ⟨rfl, HB3.out⟩
  · have hrb : (r != 0) = true := by simpa using hr0
    have hss := HSS.out
    rw [if_neg hr0] at hss
    subst hss
    clear hr0
    go_wp2_with fail
    go_ret2
    exact ⟨rfl, HB2.out⟩
set_option maxHeartbeats 2000000 in
theorem refSize_at (x : Val) (v : Value) (P : Nat → Prop) (w : World) (hv : VAt w P v x) (ht : tot x ≤ 65536) (n r : Int) (hr : chk x = r) (hn : (if chk x = 0 then (cnt x : Int) else 0) = n) :
    Calls Tryd.prog 15 #[v] w fun e w' => e = .returned (.tuple #[intV n, intV r]) ∧ Below w.heap.size w w' := by
  obtain ⟨sa, sc, rfl, _⟩ := hv.agg
  obtain ⟨w1, hw1⟩ : ∃ X, w.alloc (.cells #[intV x.kd, intV x.nm, .string x.tx, .slice sa x.its.length sc] 24) = X := ⟨_, rfl⟩
  have hb1 : Below w.heap.size w w1 := by rw [← hw1]; exact below_box0 w _
  have HB1 := Lib.hid hb1
  have HX1 := Lib.hid (show w1.heap[w.heap.size]? = some (.cells #[intV x.kd, intV x.nm, .string x.tx, .slice sa x.its.length sc] 24 (0, 0)) by rw [← hw1]; exact heap_alloc_new _ _)
  have HV1 := Lib.hid (hv.below hb1)
  have HCK := Lib.hid (refCheck_any x _ P w1 (hv.below hb1) ht)
  rw [hr] at HCK
  rw [hr] at hn
  have HW1 := Lib.hid hw1
  have HN := Lib.hid hn
  have HR := Lib.hid hr
  clear hv hw1 hb1 hr hn
  obtain ⟨c0, c1, c2, c3⟩ := heap4 HX1.out
  go_enter Tryd.func15, Tryd.ntmps15
  go_upto_region 1 with fail
  rw [HW1.out]
  go_wp2_with fail
  refine HCK.out.mono ?_
  rintro e w2 ⟨rfl, h2⟩
  have HB2 := Lib.hid (below_seq HB1.out h2 HB1.out.size)
  have HX2 := Lib.hid ((h2.block _ (heap_lt HX1.out)).trans HX1.out)
  have HV2 := Lib.hid (HV1.out.below h2)
  clear h2 c0 c1 c2 c3 HCK
  by_cases hr0 : r = 0
  · have hrb : (r != 0) = false := by simpa using hr0
    have hm : measR x 64 = ((cnt x : Int), false) := by
      obtain ⟨k, nn, t, l⟩ := x
      have := (chk_zero (HR.out.trans hr0)).1
      rw [measR, if_pos this]
    have hnn := HN.out
    rw [if_pos hr0] at hnn
    have HM := Lib.hid (measure_any x _ P w2 64 65536 HV2.out (by decide) ht (by decide))
    rw [hm] at HM
    dsimp only at HM
    rw [hnn] at HM
    subst hr0
    clear hm hnn
    obtain ⟨c0, c1, c2, c3⟩ := heap4 HX2.out
    go_wp2_with fail
    refine HM.out.mono ?_
    rintro e w3 ⟨rfl, h3⟩
    have HB3 := Lib.hid (below_seq HB2.out h3 HB2.out.size)
    clear h3 c0 c1 c2 c3 HM
    go_wp2_with fail
    go_ret2
    exact ⟨rfl, HB3.out⟩
  · have hrb : (r != 0) = true := by simpa using hr0
    have hnn := HN.out
    rw [if_neg hr0] at hnn
    subst hnn
    clear hr0
    go_wp2_with fail
    go_ret2
    exact ⟨rfl, HB2.out⟩
theorem refCheck_at (x : Val) (v : Value) (P : Nat → Prop) (w : World) (hv : VAt w P v x) (ht : tot x ≤ 65536) (r : Int) (hr : chk x = r) :
    Calls Tryd.prog 17 #[v] w fun e w' => e = .returned (intV r) ∧ Below w.heap.size w w' := by subst hr; exact refCheck_any x v P w hv ht
end Go.Proofs.YtjcigjggfmfoeaaDoor
