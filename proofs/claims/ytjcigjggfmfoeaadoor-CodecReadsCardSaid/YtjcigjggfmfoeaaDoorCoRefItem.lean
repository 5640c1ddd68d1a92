/- The reference's item. -/
import Derived.Test.YtjcigjggfmfoeaaDoorCoRefNum
namespace Go.Proofs.YtjcigjggfmfoeaaDoor
set_option linter.unusedSimpArgs false
set_option linter.unusedVariables false
set_option maxRecDepth 100000
open Go.RowKit Go.Deep

/-- what item gives -/
def ItemIs (s : ByteArray) (x : Val) (k : Nat) (b : Bool) : Prop := x.its = [] ∧ (∀ W P, VAt W P (.agg #[intV x.kd, intV x.nm, .string x.tx, .slice none 0 0]) x) ∧ k ≤ s.size ∧ ((b = true ∧ 1 ≤ k ∧ one s.data.toList = some (x, s.data.toList.drop k)) ∨ (b = false ∧ one s.data.toList = none))
def ItemPost (s : ByteArray) (w : World) (e : Ending) (w' : World) : Prop := ∃ (x : Val) (k : Nat) (b : Bool), e = .returned (.tuple #[.agg #[intV x.kd, intV x.nm, .string x.tx, .slice none 0 0], intV (k : Nat), .bool b]) ∧ ItemIs s x k b ∧ Below w.heap.size w w'
theorem ba_head {s : ByteArray} {c : UInt8} {r : List UInt8} (h : s.data.toList = c :: r) (h0 : 0 < s.size) : s[0] = c := by
  rw [← ba_get s 0 h0]
  simp [h]
theorem fin_item {s : ByteArray} {w W1 W4 : World} {a : Act} {x : Val} {k : Nat} {b : Bool} (hW : (((W1.setCell ⟨w.heap.size, 0, none⟩ (intV x.kd)).setCell ⟨w.heap.size, 1, none⟩ (intV x.nm)).setCell ⟨w.heap.size, 2, none⟩ (.string x.tx)).setCell ⟨w.heap.size, 3, none⟩ (.slice none 0 0) = W4)
    (hb : W1.heap[w.heap.size]? = some (.cells #[intV 0, intV 0, .string ⟨#[]⟩, .slice none 0 0] 24 (0, 0))) (hB : Below (w.heap.size + 1) (w.alloc (.cells #[intV 0, intV 0, .string ⟨#[]⟩, .slice none 0 0] 24)) W1) (hd : a.defers = [])
    (h2 : a.tmps.getD 2 undef = .pointer (some ⟨w.heap.size, 0, none⟩)) (h3 : a.tmps.getD 3 undef = intV (k : Nat)) (h4 : a.tmps.getD 4 undef = .bool b) (hx : ItemIs s x k b) : bodyPost Tryd.prog Tryd.f46 (ItemPost s w) .ret a W4 := by
  obtain ⟨k1, k2, k3⟩ := set4 hb hW
  obtain ⟨d0, d1, d2, d3⟩ := heap4 k1
  have h2' : a.tmps[2]?.getD undef = .pointer (some ⟨w.heap.size, 0, none⟩) := by simpa using h2
  have h3' : a.tmps[3]?.getD undef = intV (k : Nat) := by simpa using h3
  have h4' : a.tmps[4]?.getD undef = .bool b := by simpa using h4
  refine ⟨hd, .tuple #[.agg #[intV x.kd, intV x.nm, .string x.tx, .slice none 0 0], intV (k : Nat), .bool b], by simp [results, Tryd.f46, go_sem, h2', h3', h4', d0, d1, d2, d3], x, k, b, rfl, hx, ?_⟩
  exact (below_seq (below_box0 w _) hB (by omega)).trans ⟨by rw [← hW]; rfl, by rw [← hW]; rfl, by rw [← hW]; rfl, by omega, fun b hb => k2 b (by omega)⟩
set_option maxHeartbeats 2000000 in
theorem item_any (c : UInt8) (r : List UInt8) (s : ByteArray) (hcr : s.data.toList = c :: r) (hs : s.size ≤ 1048576) (w : World) (hT : Tab w) :
    Calls Tryd.prog 46 #[.string s] w (ItemPost s w) := by
  have hsz : s.size = r.length + 1 := by rw [← size_list, hcr]; rfl
  have h0 : 0 < s.size := by omega
  have hc := ba_head hcr h0
  obtain ⟨rb, hrb⟩ : ∃ rb, s.extract 1 s.size = rb := ⟨_, rfl⟩
  have hrl : rb.data.toList = r := by rw [← hrb, ext_list, hcr]; simp [hsz]
  have hrs : rb.size = r.length := by rw [← size_list, hrl]
  have hl1 : (1 : Int) ≤ s.size := by omega
  have HT := Lib.hid (hT.below (below_box0 w (.cells #[intV 0, intV 0, .string ⟨#[]⟩, .slice none 0 0] 24)))
  have hdr : ∀ k, s.data.toList.drop (k + 1) = rb.data.toList.drop k := fun k => by rw [hcr, hrl]; rfl
  have HDR := Lib.hid hdr
  have HCR := Lib.hid hcr
  have HRL := Lib.hid hrl
  have HRS := Lib.hid (show rb.size + 1 = s.size by omega)
  have hrz : rb.size ≤ 1048576 := by omega
  clear hT hcr hrl hdr hsz hrs
  by_cases k1 : c = 105
  · have kb : ((s[0].toNat : Int) == 105) = true := by rw [hc, k1]; rfl
    have HN := Lib.hid (number_any 59 59 rfl rb hrz _ HT.out)
    have HC := Lib.hid k1
    clear k1 hc
    go_enter Tryd.func46, Tryd.ntmps46
    go_wp2_with fail
    refine HN.out.mono ?_
    rintro e w1 ⟨n, k, b, rfl, ⟨hi, hk, hnum⟩, h1⟩
    rw [World.size_alloc] at h1
    have HI := Lib.hid (And.intro hi hnum)
    have HB1 := Lib.hid h1
    clear hi hnum h1 HN
    go_wp2_with fail
    refine (refInt_any n w1).mono ?_
    rintro e w2 ⟨rfl, h2⟩
    have hb := HB1.out.trans (h2.mono (by have := HB1.out.size; simpa using this))
    have hb1 := (hb.block _ (by simp)).trans (heap_alloc_new w _)
    obtain ⟨c0, c1, c2, c3⟩ := heap4 hb1
    obtain ⟨g0, g1, g2, g3⟩ := froz4 hb1
    obtain ⟨W4, hW4⟩ : ∃ X, (((w2.setCell ⟨w.heap.size, 0, none⟩ (.int .i64 1)).setCell ⟨w.heap.size, 1, none⟩ (.int .i64 n)).setCell ⟨w.heap.size, 2, none⟩ (.string ⟨#[]⟩)).setCell ⟨w.heap.size, 3, none⟩ (.slice none 0 0) = X := ⟨_, rfl⟩
    have HW := Lib.hid hW4
    have HB := Lib.hid hb
    have HX := Lib.hid hb1
    clear hb hb1 hW4 h2
    go_wp2_with fail
    rw [HW.out]
    refine fin_item (x := mkI n) (k := k + 1) (b := b) HW.out HX.out HB.out rfl rfl (by go_num) rfl ⟨rfl, fun W P => vat_int HI.out.1, by have := HRS.out; omega, ?_⟩
    rcases HI.out.2 with ⟨hb, h1, hn⟩ | ⟨hb, hn⟩
    · exact .inl ⟨hb, by omega, by rw [HDR.out, HCR.out, one, if_pos HC.out, ← HRL.out, hn]⟩
    · exact .inr ⟨hb, by rw [HCR.out, one, if_pos HC.out, ← HRL.out, hn]⟩
  · have kb : ((s[0].toNat : Int) == 105) = false := by rw [hc]; exact byte_ne rfl k1
    have HN := Lib.hid (number_any 58 58 rfl rb hrz _ HT.out)
    have HC := Lib.hid k1
    clear k1
    by_cases k2 : c = 115
    · have kb2 : ((s[0].toNat : Int) != 115) = false := by rw [hc, k2]; rfl
      have HC2 := Lib.hid k2
      clear k2 hc
      go_enter Tryd.func46, Tryd.ntmps46
      go_wp2_with fail
      refine HN.out.mono ?_
      rintro e w1 ⟨n, k, b, rfl, ⟨hi, hk, hnum⟩, h1⟩
      rw [World.size_alloc] at h1
      have HI := Lib.hid (And.intro hi hnum)
      have HB1 := Lib.hid h1
      have hi0 := hi.1
      have hi1 := hi.2
      have hkr := HRS.out
      have hx1 := (HB1.out.block _ (by simp)).trans (heap_alloc_new w _)
      have HX := Lib.hid hx1
      obtain ⟨c0, c1, c2, c3⟩ := heap4 hx1
      obtain ⟨g0, g1, g2, g3⟩ := froz4 hx1
      have HIO := Lib.hid (And.intro hi (And.intro hk hkr))
      by_cases hgood : b = true ∧ 0 ≤ n ∧ n ≤ (s.size : Int) - 1 - k
      · obtain ⟨rfl, hn0, hnr⟩ := hgood
        obtain ⟨m, rfl⟩ : ∃ m : Nat, n = m := ⟨n.toNat, by omega⟩
        have hmr : 1 + k + m ≤ s.size := by omega
        have q1 : decide ((m : Int) < 0) = false := by simp
        have q2 : decide ((s.size : Int) - 1 - k < m) = false := by simp; omega
        have q3 : (0 : Int) ≤ 1 + k := by omega
        have q4 : (1 : Int) + k ≤ 1 + k + m := by omega
        have q5 : (1 : Int) + k + m ≤ s.size := by omega
        have hss : s.size ≤ 1048576 := by omega
        have HKR := Lib.hid hkr
        clear hi hnum h1 HN hx1 hn0 hnr hi0 hi1 hk hkr c0 c1 c2 c3 g0 g1 g2 g3
        go_wp2_with fail
        obtain ⟨tq, htq⟩ : ∃ tq, s.extract (1 + k) (1 + k + m) = tq := ⟨_, rfl⟩
        rw [htq]
        have hts : tq.size = m := by rw [← htq]; simp; omega
        have HTL := Lib.hid (show tq.data.toList = (s.data.toList.drop (k + 1)).take m by rw [← htq, ext_list, Nat.add_comm 1 k]; congr 1; omega)
        have HTS := Lib.hid hts
        clear htq hts
        refine (refText_any tq w1).mono ?_
        rintro e w2 ⟨rfl, h2⟩
        have hb := HB1.out.trans (h2.mono (by have := HB1.out.size; simpa using this))
        have hb1 := (hb.block _ (by simp)).trans (heap_alloc_new w _)
        obtain ⟨c0, c1, c2, c3⟩ := heap4 hb1
        obtain ⟨g0, g1, g2, g3⟩ := froz4 hb1
        obtain ⟨W4, hW4⟩ : ∃ X, (((w2.setCell ⟨w.heap.size, 0, none⟩ (.int .i64 2)).setCell ⟨w.heap.size, 1, none⟩ (.int .i64 0)).setCell ⟨w.heap.size, 2, none⟩ (.string tq)).setCell ⟨w.heap.size, 3, none⟩ (.slice none 0 0) = X := ⟨_, rfl⟩
        have HW := Lib.hid hW4
        have HB := Lib.hid hb
        have HX2 := Lib.hid hb1
        clear hb hb1 hW4 h2
        go_wp2_with fail
        rw [HW.out]
        refine fin_item (x := mkT tq) (k := 1 + k + m) (b := true) HW.out HX2.out HB.out rfl rfl (by go_num) rfl ⟨rfl, fun W P => vat_text (t := tq) (by have := HTS.out; omega), hmr, .inl ⟨rfl, by omega, ?_⟩⟩
        rcases HI.out.2 with ⟨_, h1, hn⟩ | ⟨hb, _⟩
        · have hlen : (rb.data.toList.drop k).length = rb.size - k := by rw [List.length_drop, size_list]
          rw [HCR.out, HC2.out, ← HRL.out, one_text hn (by omega) (by rw [hlen]; have := HKR.out; omega)]
          have htl := HTL.out
          rw [HDR.out] at htl
          refine congrArg some (Prod.ext ?_ ?_)
          · show mkT _ = mkT tq
            congr 1
            exact ba_of (by simp [htl])
          · show List.drop (m : Int).toNat (List.drop k rb.data.toList) = List.drop (1 + k + m) (115 :: rb.data.toList)
            rw [show 1 + k + m = (k + m) + 1 by omega, List.drop_succ_cons, List.drop_drop]
            rfl
        · cases hb
      · have hbad : ∀ n' rest, num 58 rb.data.toList = some (n', rest) → ¬ (0 ≤ n' ∧ n' ≤ rest.length) := by
          intro n' rest hnm
          rcases hnum with ⟨hb, h1, hn⟩ | ⟨_, hn⟩
          · rw [hn] at hnm
            cases hnm
            rw [List.length_drop, size_list]
            exact fun hh => hgood ⟨hb, hh.1, by have := hh.2; omega⟩
          · rw [hn] at hnm; cases hnm
        have HBAD := Lib.hid (show one s.data.toList = none by rw [HCR.out, HC2.out, ← HRL.out]; exact one_bad hbad)
        obtain ⟨W4, hW4⟩ : ∃ X, (((w1.setCell ⟨w.heap.size, 0, none⟩ (.int .i64 0)).setCell ⟨w.heap.size, 1, none⟩ (.int .i64 0)).setCell ⟨w.heap.size, 2, none⟩ (.string ⟨#[]⟩)).setCell ⟨w.heap.size, 3, none⟩ (.slice none 0 0) = X := ⟨_, rfl⟩
        have HW := Lib.hid hW4
        have HG := Lib.hid hgood
        have hi0 := hi.1
        have hi1 := hi.2
        have hk1 : k + 1 ≤ s.size := by omega
        clear hi hnum h1 HN hx1 hW4 hgood hk hkr hbad HI
        cases b with
        | false =>
          go_wp2_with fail
          rw [HW.out]
          exact fin_item (x := mkZ) (k := 0) (b := false) HW.out HX.out HB1.out rfl rfl rfl rfl ⟨rfl, fun W P => vat_zero _ _, Nat.zero_le _, .inr ⟨rfl, HBAD.out⟩⟩
        | true =>
          by_cases hn0 : n < 0
          · have q1 : decide (n < 0) = true := by simpa using hn0
            go_wp2_with fail
            rw [HW.out]
            exact fin_item (x := mkZ) (k := 0) (b := false) HW.out HX.out HB1.out rfl rfl rfl rfl ⟨rfl, fun W P => vat_zero _ _, Nat.zero_le _, .inr ⟨rfl, HBAD.out⟩⟩
          · have hgt : (s.size : Int) - 1 - k < n := by
              have := HG.out
              by_cases h : n ≤ (s.size : Int) - 1 - k
              · exact absurd ⟨rfl, by omega, h⟩ this
              · omega
            have q1 : decide (n < 0) = false := by simpa using hn0
            have q2 : decide ((s.size : Int) - 1 - k < n) = true := by simpa using hgt
            clear hn0
            go_wp2_with fail
            rw [HW.out]
            exact fin_item (x := mkZ) (k := 0) (b := false) HW.out HX.out HB1.out rfl rfl rfl rfl ⟨rfl, fun W P => vat_zero _ _, Nat.zero_le _, .inr ⟨rfl, HBAD.out⟩⟩
    · have kb2 : ((s[0].toNat : Int) != 115) = true := by rw [bne, hc, byte_ne (ev := 115) (e := 115) rfl k2]; rfl
      have HBAD := Lib.hid (show one s.data.toList = none by rw [HCR.out, one, if_neg HC.out, if_neg k2])
      clear hc k2
      go_enter Tryd.func46, Tryd.ntmps46
      go_wp2_with fail
      refine HN.out.mono ?_
      rintro e w1 ⟨n, k, b, rfl, ⟨hi, hk, hnum⟩, h1⟩
      rw [World.size_alloc] at h1
      have HB1 := Lib.hid h1
      have hx1 := (HB1.out.block _ (by simp)).trans (heap_alloc_new w _)
      have HX := Lib.hid hx1
      obtain ⟨c0, c1, c2, c3⟩ := heap4 hx1
      obtain ⟨g0, g1, g2, g3⟩ := froz4 hx1
      obtain ⟨W4, hW4⟩ : ∃ X, (((w1.setCell ⟨w.heap.size, 0, none⟩ (.int .i64 0)).setCell ⟨w.heap.size, 1, none⟩ (.int .i64 0)).setCell ⟨w.heap.size, 2, none⟩ (.string ⟨#[]⟩)).setCell ⟨w.heap.size, 3, none⟩ (.slice none 0 0) = X := ⟨_, rfl⟩
      have HW := Lib.hid hW4
      clear hnum h1 HN hx1 hW4 hi hk
      go_wp2_with fail
      rw [HW.out]
      exact fin_item (x := mkZ) (k := 0) (b := false) HW.out HX.out HB1.out rfl rfl rfl rfl ⟨rfl, fun W P => vat_zero _ _, Nat.zero_le _, .inr ⟨rfl, HBAD.out⟩⟩
end Go.Proofs.YtjcigjggfmfoeaaDoor
