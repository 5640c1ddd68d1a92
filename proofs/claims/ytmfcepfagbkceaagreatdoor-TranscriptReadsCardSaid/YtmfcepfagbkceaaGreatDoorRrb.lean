/- Stage 10 (transcript): MkTagW, put together by merge10.py. -/
import Derived.Test.YtmfcepfagbkceaaGreatDoorRra3
namespace Go.Proofs.YtmfcepfagbkceaaGreatDoor
set_option linter.unusedSimpArgs false
set_option linter.unusedVariables false
set_option maxRecDepth 100000
open Go.RowKit Go.Deep
def TagPost (r : (Int × Bs × Bs) × Int) (w : World) (e : Ending) (w' : World) : Prop := e = .returned (.tuple #[.agg #[intV r.1.1, sV r.1.2.1, sV r.1.2.2, intV 0], intV r.2]) ∧ Below w.heap.size w w'
def Begins (p : Bs) (zi zt : ByteArray) (li : Nat) : Prop :=
  (cloB p = true ∧ ∃ (h : 0 < zi.size) (c : UInt8), zi[0]'h = c ∧ ((c.toNat : Int) == 47) = true ∧ zi.extract 1 li = zt ∧ 0 < li) ∨
  (cloB p = false ∧ ∃ (h : 0 < zt.size) (c : UInt8), zt[0]'h = c ∧ ((c.toNat : Int) == 47) = false ∧ zi = zt ∧ 0 < li) ∨
  (cloB p = false ∧ zi = zt ∧ ¬ 0 < li)
theorem begins_ways (p : Bs) : Begins p (baL (inn p)) (baL (tin p)) (inn p).length := by
  by_cases h0 : (inn p).length = 0
  · have e : inn p = [] := List.length_eq_zero_iff.1 h0
    have hc : cloB p = false := by unfold cloB; rw [e]; rfl
    refine .inr (.inr ⟨hc, ?_, by omega⟩)
    unfold tin
    rw [if_neg (by rw [hc]; decide)]
  · obtain ⟨c, l, e⟩ := List.exists_cons_of_ne_nil (fun h => h0 (by rw [h]; rfl) : inn p ≠ [])
    have hz : 0 < (baL (inn p)).size := by rw [baL_size]; omega
    have hget : (baL (inn p))[0]'hz = c := by
      show (inn p).toArray[0]'_ = c
      simp [e]
    by_cases hc : c = 47
    · have hcl : cloB p = true := by unfold cloB; rw [e, hc]; rfl
      refine .inl ⟨hcl, hz, c, hget, by rw [hc]; rfl, ?_, by omega⟩
      rw [baL_ext]
      unfold tin
      rw [if_pos hcl, List.take_of_length_le (by rw [List.length_drop]; omega)]
    · have hcl : cloB p = false := by
        unfold cloB
        rw [e, List.head?_cons]
        exact decide_eq_false (fun h => hc (by cases h; rfl))
      have ht : tin p = inn p := by
        unfold tin
        rw [if_neg (by rw [hcl]; decide)]
      rw [ht]
      refine .inr (.inl ⟨hcl, hz, c, hget, ?_, rfl, by omega⟩)
      · have := byte_beq c 47 (by decide)
        rw [show ((47 : Nat) : Int) = 47 from rfl] at this
        rw [this]
        exact decide_eq_false hc
def Way (t : Bs) (zt : ByteArray) (nl tl : Nat) (v : Bs) : Prop :=
  (nl = tl ∧ v = []) ∨ (nl < tl ∧ v = [] ∧ ∃ (h : nl < zt.size) (c : UInt8), zt[nl]'h = c ∧ ((c.toNat : Int) == 32) = false ∧ ((c.toNat : Int) == 47) = true) ∨
  (nl < tl ∧ v = (t.drop (nl + 1)).takeWhile (fun c => decide (c ≠ 47)) ∧ ∃ (h : nl < zt.size) (c : UInt8), zt[nl]'h = c ∧ ((c.toNat : Int) == 32) = true)
theorem way_of (p : Bs) : Way (tin p) (baL (tin p)) (nmOf p).length (tin p).length (vlOf p) := by
  have hnl : (nmOf p).length ≤ (tin p).length := tw_le _
  by_cases h : (nmOf p).length < (tin p).length
  · have hq := tw_out (q := nmC) (tin p) h
    have hz : (nmOf p).length < (baL (tin p)).size := by rw [baL_size]; exact h
    by_cases h32 : (tin p)[(nmOf p).length] = 32
    · exact .inr (.inr ⟨h, vl_sp h h32, hz, _, rfl, (byte_beq _ 32 (by decide)).trans (decide_eq_true h32)⟩)
    · have h47 : (tin p)[(nmOf p).length] = 47 := by
        have hq : nmC (tin p)[(nmOf p).length] = false := hq
        unfold nmC at hq
        rw [Bool.and_eq_false_iff, decide_eq_false_iff_not, decide_eq_false_iff_not] at hq
        rcases hq with hq | hq
        · exact absurd h32 hq
        · exact Classical.not_not.1 hq
      exact .inr (.inl ⟨h, vl_no h h32, hz, _, rfl, (byte_beq _ 32 (by decide)).trans (decide_eq_false h32), (byte_beq _ 47 (by decide)).trans (decide_eq_true h47)⟩)
  · exact .inl ⟨by omega, vl_end (by omega)⟩
def Val2 (zt zv : ByteArray) (nl tl vn : Nat) : Prop :=
  (∀ j, j < vn → ∃ (h : nl + 1 + j < zt.size) (c : UInt8), zt[nl + 1 + j]'h = c ∧ ((c.toNat : Int) == 47) = false) ∧
  ((nl + 1 + vn = tl) ∨ (nl + 1 + vn < tl ∧ ∃ (h : nl + 1 + vn < zt.size) (c : UInt8), zt[nl + 1 + vn]'h = c ∧ ((c.toNat : Int) == 47) = true)) ∧
  zt.extract (nl + 1) (nl + 1 + vn) = zv ∧ nl + 1 + vn ≤ tl
theorem val2_of (t : Bs) (nl : Nat) (h : nl < t.length) (V : Bs) (hV : V = (t.drop (nl + 1)).takeWhile (fun c => decide (c ≠ 47))) : Val2 (baL t) (baL V) nl t.length V.length := by
  have hle : V.length ≤ (t.drop (nl + 1)).length := by rw [hV]; exact tw_le _
  rw [List.length_drop] at hle
  refine ⟨fun j hj => ?_, ?_, ?_, by omega⟩
  · rw [hV] at hj
    obtain ⟨h1, h2⟩ := tw_in _ j hj
    rw [List.length_drop] at h1
    rw [List.getElem_drop, decide_eq_true_eq] at h2
    exact ⟨by rw [baL_size]; omega, t[nl + 1 + j], rfl, (byte_beq _ 47 (by decide)).trans (decide_eq_false h2)⟩
  · by_cases he : nl + 1 + V.length = t.length
    · exact .inl he
    · right
      have hlt : ((t.drop (nl + 1)).takeWhile (fun c => decide (c ≠ 47))).length < (t.drop (nl + 1)).length := by rw [← hV, List.length_drop]; omega
      have h2 := tw_out _ hlt
      rw [List.getElem_drop, decide_eq_false_iff_not, Classical.not_not] at h2
      refine ⟨by omega, by rw [baL_size]; omega, t[nl + 1 + V.length]'(by omega), rfl, ?_⟩
      have h3 : t[nl + 1 + V.length]'(by omega) = 47 := by
        rw [← h2]; congr 2; rw [hV]
      exact (byte_beq _ 47 (by decide)).trans (decide_eq_true h3)
  · rw [baL_ext, Nat.add_sub_cancel_left]
    congr 1
    have := tw_pre (q := fun c => decide (c ≠ 47)) (t.drop (nl + 1))
    rw [← hV] at this
    exact this.symm
set_option maxHeartbeats 8000000 in
theorem tag_any (p : Bs) (hp : 2 ≤ p.length) (hl : p.length ≤ 65536) (r : (Int × Bs × Bs) × Int) (hr : tagR p = r) (w : World) :
    Calls Tryz.prog 70 #[sV p] w (TagPost r w) := by
  have HR := Lib.hid hr
  obtain ⟨hx1, hli⟩ := inn_ext hp
  have hbeg := begins_ways p
  have hsz : (baL p).size = p.length := baL_size p
  have hlz : (baL (inn p)).size = (inn p).length := baL_size _
  have htz : (baL (tin p)).size = (tin p).length := baL_size _
  have htl : (tin p).length ≤ 65536 := by
    unfold tin
    split
    · rw [List.length_drop]; omega
    · omega
  have hnl : (nmOf p).length ≤ (tin p).length := tw_le _
  have hx3 : (baL (tin p)).extract 0 (nmOf p).length = baL (nmOf p) := by
    rw [baL_ext, List.drop_zero, Nat.sub_zero]
    congr 1
    exact (tw_pre _).symm
  have HTW := Lib.hid (show ∀ k, k < (nmOf p).length → ∃ h : k < (baL (tin p)).size, ∃ c : UInt8, (baL (tin p))[k]'h = c ∧ ((c.toNat : Int) == 32) = false ∧ ((c.toNat : Int) == 47) = false from fun k hk => by
    obtain ⟨h1, h2⟩ := tw_in (tin p) k hk
    unfold nmC at h2
    rw [Bool.and_eq_true, decide_eq_true_eq, decide_eq_true_eq] at h2
    refine ⟨by rw [baL_size]; exact h1, (tin p)[k], rfl, ?_, ?_⟩
    · have := byte_beq (tin p)[k] 32 (by decide)
      exact this.trans (decide_eq_false h2.1)
    · have := byte_beq (tin p)[k] 47 (by decide)
      exact this.trans (decide_eq_false h2.2))
  have hway := way_of p
  have hval := fun (h : (nmOf p).length < (tin p).length) (hv : vlOf p = ((tin p).drop ((nmOf p).length + 1)).takeWhile (fun c => decide (c ≠ 47))) => val2_of (tin p) _ h (vlOf p) hv
  obtain ⟨em, hem⟩ : ∃ b, emptyT (nmOf p) = b := ⟨_, rfl⟩
  obtain ⟨rt, hrt⟩ : ∃ b, rightB (nmOf p) (vlOf p) = b := ⟨_, rfl⟩
  have hvl : (vlOf p).length ≤ 65536 := by
    unfold vlOf
    split
    · rename_i c r0 he
      have hr0 : (c :: r0).length ≤ (tin p).length := by rw [← he, List.length_drop]; omega
      rw [List.length_cons] at hr0
      split
      · have := tw_le (q := fun c => decide (c ≠ 47)) r0; omega
      · simp
    · simp
  have hnv : (nmOf p).length + (vlOf p).length ≤ 200000 := by omega
  have HEM := Lib.hid (fun W => empty_any (nmOf p) em hem W)
  have HRI := Lib.hid (fun W => right_any (nmOf p) (vlOf p) rt hrt (by unfold maxLen; omega) W)
  have HFO := Lib.hid (fun kd W => form_any kd (nmOf p) (vlOf p) 0 (formF kd (nmOf p) (vlOf p)) rfl hnv W)
  obtain ⟨tg, htg⟩ : ∃ b, isTag (nmOf p) = b := ⟨_, rfl⟩
  have HKN := Lib.hid (fun W => known_any (nmOf p) tg htg W)
  obtain ⟨n1, hn1⟩ : ∃ n, p.length - 1 = n := ⟨_, rfl⟩
  have hw0 : IntKind.i64.wrap ((p.length : Int) - 1) = (n1 : Int) := by rw [show (p.length : Int) - 1 = (n1 : Int) by omega]; exact IntWalk.i64_in _ (by omega)
  have hs1 : (1 : Int) ≤ (n1 : Int) := by omega
  have hs2 : (n1 : Int) ≤ (p.length : Int) := by omega
  rw [hn1] at hx1
  obtain ⟨z0, hz0⟩ : ∃ z, baL p = z := ⟨_, rfl⟩
  obtain ⟨zi, hzi⟩ : ∃ z, baL (inn p) = z := ⟨_, rfl⟩
  obtain ⟨zt, hzt⟩ : ∃ z, baL (tin p) = z := ⟨_, rfl⟩
  obtain ⟨zn, hzn⟩ : ∃ z, baL (nmOf p) = z := ⟨_, rfl⟩
  obtain ⟨li, hlie⟩ : ∃ z, (inn p).length = z := ⟨_, rfl⟩
  obtain ⟨tl, htle⟩ : ∃ z, (tin p).length = z := ⟨_, rfl⟩
  obtain ⟨nl, hnle⟩ : ∃ z, (nmOf p).length = z := ⟨_, rfl⟩
  obtain ⟨vn, hvne⟩ : ∃ z, (vlOf p).length = z := ⟨_, rfl⟩
  obtain ⟨zv, hzv⟩ : ∃ z, baL (vlOf p) = z := ⟨_, rfl⟩
  replace HEM : Hid (∀ W, Calls Tryz.prog 97 #[.string zn] W fun e w' => e = .returned (.bool em) ∧ w' = W) := by rw [← hzn]; exact HEM
  replace HRI : Hid (∀ W, Calls Tryz.prog 99 #[.string zn, .string zv] W fun e w' => e = .returned (.bool rt) ∧ Below W.heap.size W w') := by rw [← hzn, ← hzv]; exact HRI
  replace HFO : Hid (∀ kd W, Calls Tryz.prog 98 #[.agg #[intV kd, .string zn, .string zv, .int .i64 0]] W fun e w' => e = .returned (sV (formF kd (nmOf p) (vlOf p))) ∧ Below W.heap.size W w') := by rw [← hzn, ← hzv]; exact HFO
  rw [hzt, hnle, htle] at hway
  rw [hzt, hzv, hnle, htle, hvne] at hval
  replace HKN : Hid (∀ W, Calls Tryz.prog 96 #[.string zn] W fun e w' => e = .returned (.bool tg) ∧ Below W.heap.size W w') := by rw [← hzn]; exact HKN
  show Calls Tryz.prog _ #[.string (baL p)] w _
  rw [hz0] at hx1 hsz ⊢
  rw [hzi] at hx1 hlz hbeg
  rw [hzt] at hbeg htz hx3 HTW
  rw [hzn, hnle] at hx3
  rw [hlie] at hlz hbeg hli
  rw [htle] at htz htl hnl
  rw [hnle] at hnl HTW
  have HZ := Lib.hid (And.intro hz0 (And.intro hzi (And.intro hzt (And.intro hzn (And.intro hnle htle)))))
  have HWAY := Lib.hid hway
  have HVAL := Lib.hid hval
  have HEMB := Lib.hid hem
  have HRT := Lib.hid hrt
  have HZV := Lib.hid hzv
  have HTG := Lib.hid htg
  have HW0 := Lib.hid (alloc_below w zeroX)
  obtain ⟨wa, hwa⟩ : ∃ x, w.alloc (.cells #[.int .i64 0, .string ⟨#[]⟩, .string ⟨#[]⟩, .int .i64 0] 52) = x := ⟨_, rfl⟩
  have HWA := Lib.hid hwa
  clear hr hzi hzt hzn hz0 hnle htle hway htg hwa hval hem hrt hzv hvne hnv
  have HBEG : (cloB p = true ∧ Hid (cloB p = true) ∧ (∃ (h : 0 < zi.size) (c : UInt8), zi[0]'h = c ∧ ((c.toNat : Int) == 47) = true) ∧ z0.extract 1 n1 = zi ∧ zi.size = li ∧ zi.extract 1 li = zt ∧ 0 < li) ∨
      (cloB p = false ∧ Hid (cloB p = false) ∧ (∃ (h : 0 < zt.size) (c : UInt8), zt[0]'h = c ∧ ((c.toNat : Int) == 47) = false) ∧ z0.extract 1 n1 = zt ∧ 0 < tl) ∨
      (cloB p = false ∧ Hid (cloB p = false) ∧ z0.extract 1 n1 = zt ∧ ¬ 0 < tl) := by
    rcases hbeg with ⟨h1, h2, c, h3, h4, h5, h6⟩ | ⟨h1, h2, c, h3, h4, h5, h6⟩ | ⟨h1, h5, h6⟩
    · exact .inl ⟨h1, Lib.hid h1, ⟨h2, c, h3, h4⟩, hx1, hlz, h5, h6⟩
    · refine .inr (.inl ⟨h1, Lib.hid h1, ⟨h2, c, h3, h4⟩, by rw [← h5]; exact hx1, ?_⟩)
      rw [h5] at hlz; omega
    · refine .inr (.inr ⟨h1, Lib.hid h1, by rw [← h5]; exact hx1, ?_⟩)
      rw [h5] at hlz; omega
  clear hbeg hx1 hlz hli hn1 hlie
  rcases HBEG with ⟨hcl, HCL, ⟨hzl, c0, hc0, hc47⟩, hx1, hlz, hxt, g1⟩ | ⟨hcl, HCL, ⟨hzl, c0, hc0, hc47⟩, hx1, g1⟩ | ⟨hcl, HCL, hx1, g1⟩
  · clear hcl
    go_enter Tryz.func70, Tryz.ntmps70
    go_wp2
    rw [HWA.out]
    go_loopw [6] (fun iv wr => ∃ k : Nat, k ≤ nl ∧ iv = .int .i64 k ∧ wr = wa) (fun iv _ => nl - (intOf iv).toNat)
    case atStart => exact ⟨0, Nat.zero_le _, rfl, rfl⟩
    case round =>
      obtain ⟨k, hk, rfl, rfl⟩ := hrel
      obtain ⟨wk, rfl⟩ : ∃ x, x = wr := ⟨_, rfl⟩
      by_cases hlt : k < nl
      · obtain ⟨hkz, c, hc, q32, q47⟩ := HTW.out k hlt
        have r32 : ((c.toNat : Int) != 32) = true := by rw [bne, q32]; rfl
        have r47 : ((c.toNat : Int) != 47) = true := by rw [bne, q47]; rfl
        have hkt : k < tl := by omega
        go_wp2
        go_roundw
        case rel => exact ⟨k + 1, by omega, by go_num, trivial⟩
        case measure => simp [intOf]; omega
      · obtain rfl : k = nl := by omega
        have hbx : wk.heap[w.heap.size]? = some (.cells #[.int .i64 0, .string ⟨#[]⟩, .string ⟨#[]⟩, .int .i64 0] 52 (0, 0)) := by rw [← HWA.out]; exact heap_alloc_new _ _
        have hbs : wk.heap.size = w.heap.size + 1 := by rw [← HWA.out]; simp
        have HBX := Lib.hid hbx
        have HBS := Lib.hid hbs
        have hk0 : (0 : Int) ≤ (k : Int) := by omega
        clear hbx hbs
        rcases HWAY.out with ⟨e1, e2⟩ | ⟨e1, e2, hkz, c, hc, q32, q47⟩ | ⟨e1, e2, hkz, c, hc, q32⟩
        · have hz : zv = ⟨#[]⟩ := by rw [← HZV.out, e2]; rfl
          subst hz
          have E2 := Lib.hid e2
          have hnt : ¬ k < tl := by omega
          have hnt2 : (k : Int) ≤ (tl : Int) := by omega
          have HE1 := Lib.hid e1
          clear e1 e2
          go_wp2_with fail
          refine (HKN.out wk).mono ?_
          rintro e' w1 ⟨rfl, h1⟩
          have K1 := Lib.hid h1
          clear h1
          cases tg with
          | false =>
            have hres : r = ((0, [], []), 12) := by rw [← HR.out]; exact tagR_no HTG.out
            have HRES := Lib.hid hres
            have hbX := (K1.out.block w.heap.size (by have := HBS.out; omega)).trans HBX.out
            have hlX : w.heap.size < w1.heap.size := (Array.getElem?_eq_some_iff.1 hbX).1
            obtain ⟨k0, k1, k2, k3⟩ := heap4 hbX
            have f0 : ∀ o, w1.frozen? ⟨w.heap.size, o, none⟩ = false := fun o => by simp [World.frozen?, hbX]
            have f00 := f0 0
            have f01 := f0 1
            have f02 := f0 2
            have f03 := f0 3
            obtain ⟨W4, hW4⟩ : ∃ X, (((w1.setCell ⟨w.heap.size, 0, none⟩ (.int .i64 0)).setCell ⟨w.heap.size, 1, none⟩ (.string ⟨#[]⟩)).setCell ⟨w.heap.size, 2, none⟩ (.string ⟨#[]⟩)).setCell ⟨w.heap.size, 3, none⟩ (.int .i64 0) = X := ⟨_, rfl⟩
            have HS := Lib.hid (set4 hbX hW4)
            have HW := Lib.hid hW4
            clear hres hbX f0 hW4
            go_wp2
            rw [HW.out]
            obtain ⟨s1, s2, s3⟩ := HS.out
            obtain ⟨d0, d1, d2, d3⟩ := heap4 s1
            refine bodyPost_ret (v := .tuple #[.agg #[.int .i64 0, .string ⟨#[]⟩, .string ⟨#[]⟩, .int .i64 0], intV 12]) (by simp [results, Tryz.results70, go_sem, d0, d1, d2, d3]) rfl ⟨by rw [HRES.out]; try rfl, ?_⟩
            have hA : Below w.heap.size w wk := by rw [← HWA.out]; exact alloc_below _ _
            exact (below_then hA K1.out).trans ⟨by rw [← HW.out]; rfl, by rw [← HW.out]; rfl, by rw [← HW.out]; rfl, by omega, fun b hb => s2 b (by omega)⟩
          | true =>
            go_wp2_with fail
            refine (HFO.out 3 _).mono ?_
            rintro e' wf ⟨rfl, hf⟩
            have hxx : wf.heap[w1.heap.size]? = some (.cells #[.int .i64 3, .string zn, .string ⟨#[]⟩, .int .i64 0] 52 (0, 0)) := (hf.block w1.heap.size (by simp)).trans (heap_alloc_new _ _)
            have KF := Lib.hid (below_then K1.out (below_then (alloc_below w1 _) hf))
            have HXX := Lib.hid hxx
            clear hf hxx
            have hkd : kdOf p = 3 := kd_close HCL.out
            have HKD := Lib.hid hkd
            clear hkd
            by_cases heq : formF 3 (nmOf p) (vlOf p) = p
            · have hq : ((baL (formF 3 (nmOf p) (vlOf p))).toList == z0.toList) = true := by rw [heq, HZ.out.1, beq_self_eq_true]
              have hq2 : ((baL (formF 3 (nmOf p) (vlOf p))).toList != z0.toList) = false := by rw [bne, hq]; rfl
              have HEQ := Lib.hid heq
              clear heq
              go_wp2_with fail
              refine (HEM.out wf).mono ?_
              rintro e' wg ⟨rfl, rfl⟩
              cases em with
              | true =>
                have hres : r = ((0, [], []), 3) := by rw [← HR.out]; exact tagR_bad HTG.out (fun h => by have h2 := h.2; rw [HKD.out, good_closeM _ _ HTG.out, HEMB.out] at h2; exact absurd h2 (by simp))
                have HRES := Lib.hid hres
                have hbX := (KF.out.block w.heap.size (by have := HBS.out; omega)).trans HBX.out
                have hlX : w.heap.size < wg.heap.size := (Array.getElem?_eq_some_iff.1 hbX).1
                obtain ⟨k0, k1, k2, k3⟩ := heap4 hbX
                have f0 : ∀ o, wg.frozen? ⟨w.heap.size, o, none⟩ = false := fun o => by simp [World.frozen?, hbX]
                have f00 := f0 0
                have f01 := f0 1
                have f02 := f0 2
                have f03 := f0 3
                obtain ⟨W4, hW4⟩ : ∃ X, (((wg.setCell ⟨w.heap.size, 0, none⟩ (.int .i64 0)).setCell ⟨w.heap.size, 1, none⟩ (.string ⟨#[]⟩)).setCell ⟨w.heap.size, 2, none⟩ (.string ⟨#[]⟩)).setCell ⟨w.heap.size, 3, none⟩ (.int .i64 0) = X := ⟨_, rfl⟩
                have HS := Lib.hid (set4 hbX hW4)
                have HW := Lib.hid hW4
                clear hres hbX f0 hW4
                go_wp2
                rw [HW.out]
                obtain ⟨s1, s2, s3⟩ := HS.out
                obtain ⟨d0, d1, d2, d3⟩ := heap4 s1
                refine bodyPost_ret (v := .tuple #[.agg #[.int .i64 0, .string ⟨#[]⟩, .string ⟨#[]⟩, .int .i64 0], intV 3]) (by simp [results, Tryz.results70, go_sem, d0, d1, d2, d3]) rfl ⟨by rw [HRES.out]; try rfl, ?_⟩
                have hA : Below w.heap.size w wk := by rw [← HWA.out]; exact alloc_below _ _
                exact (below_then hA KF.out).trans ⟨by rw [← HW.out]; rfl, by rw [← HW.out]; rfl, by rw [← HW.out]; rfl, by omega, fun b hb => s2 b (by omega)⟩
              | false =>
                have hve : (⟨#[]⟩ : ByteArray).toList.isEmpty = true := by rw [ByteArray.toList_eq]; rfl
                have HVE := Lib.hid (show decide (vlOf p = []) = true from decide_eq_true E2.out)
                obtain ⟨x0, x1, x2, x3⟩ := heap4 HXX.out
                have hres : r = ((3, nmOf p, vlOf p), 0) := by rw [← HR.out]; exact (by have := tagR_ok HTG.out (by rw [HKD.out]; exact ⟨HEQ.out, by rw [good_closeM _ _ HTG.out, HEMB.out, HVE.out]; rfl⟩); rw [HKD.out] at this; exact this)
                have HRES := Lib.hid hres
                have hbX := (KF.out.block w.heap.size (by have := HBS.out; omega)).trans HBX.out
                have hlX : w.heap.size < wg.heap.size := (Array.getElem?_eq_some_iff.1 hbX).1
                obtain ⟨k0, k1, k2, k3⟩ := heap4 hbX
                have f0 : ∀ o, wg.frozen? ⟨w.heap.size, o, none⟩ = false := fun o => by simp [World.frozen?, hbX]
                have f00 := f0 0
                have f01 := f0 1
                have f02 := f0 2
                have f03 := f0 3
                obtain ⟨W4, hW4⟩ : ∃ X, (((wg.setCell ⟨w.heap.size, 0, none⟩ (.int .i64 3)).setCell ⟨w.heap.size, 1, none⟩ (.string zn)).setCell ⟨w.heap.size, 2, none⟩ (.string ⟨#[]⟩)).setCell ⟨w.heap.size, 3, none⟩ (.int .i64 0) = X := ⟨_, rfl⟩
                have HS := Lib.hid (set4 hbX hW4)
                have HW := Lib.hid hW4
                clear hres hbX f0 hW4
                go_wp2
                rw [HW.out]
                obtain ⟨s1, s2, s3⟩ := HS.out
                obtain ⟨d0, d1, d2, d3⟩ := heap4 s1
                refine bodyPost_ret (v := .tuple #[.agg #[.int .i64 3, .string zn, .string ⟨#[]⟩, .int .i64 0], intV 0]) (by simp [results, Tryz.results70, go_sem, d0, d1, d2, d3]) rfl ⟨by rw [HRES.out, ← HZ.out.2.2.2.1, ← HZV.out]; try rfl, ?_⟩
                have hA : Below w.heap.size w wk := by rw [← HWA.out]; exact alloc_below _ _
                exact (below_then hA KF.out).trans ⟨by rw [← HW.out]; rfl, by rw [← HW.out]; rfl, by rw [← HW.out]; rfl, by omega, fun b hb => s2 b (by omega)⟩
            · have hq : ((baL (formF 3 (nmOf p) (vlOf p))).toList == z0.toList) = false := by
                rw [beq_eq_false_iff_ne, ← HZ.out.1, baL_toList, baL_toList]; exact heq
              have hq2 : ((baL (formF 3 (nmOf p) (vlOf p))).toList != z0.toList) = true := by rw [bne, hq]; rfl
              have HEQ := Lib.hid heq
              clear heq
              have hres : r = ((0, [], []), 3) := by rw [← HR.out]; exact tagR_bad HTG.out (fun h => HEQ.out (by rw [HKD.out] at h; exact h.1))
              have HRES := Lib.hid hres
              have hbX := (KF.out.block w.heap.size (by have := HBS.out; omega)).trans HBX.out
              have hlX : w.heap.size < wf.heap.size := (Array.getElem?_eq_some_iff.1 hbX).1
              obtain ⟨k0, k1, k2, k3⟩ := heap4 hbX
              have f0 : ∀ o, wf.frozen? ⟨w.heap.size, o, none⟩ = false := fun o => by simp [World.frozen?, hbX]
              have f00 := f0 0
              have f01 := f0 1
              have f02 := f0 2
              have f03 := f0 3
              obtain ⟨W4, hW4⟩ : ∃ X, (((wf.setCell ⟨w.heap.size, 0, none⟩ (.int .i64 0)).setCell ⟨w.heap.size, 1, none⟩ (.string ⟨#[]⟩)).setCell ⟨w.heap.size, 2, none⟩ (.string ⟨#[]⟩)).setCell ⟨w.heap.size, 3, none⟩ (.int .i64 0) = X := ⟨_, rfl⟩
              have HS := Lib.hid (set4 hbX hW4)
              have HW := Lib.hid hW4
              clear hres hbX f0 hW4
              go_wp2
              rw [HW.out]
              obtain ⟨s1, s2, s3⟩ := HS.out
              obtain ⟨d0, d1, d2, d3⟩ := heap4 s1
              refine bodyPost_ret (v := .tuple #[.agg #[.int .i64 0, .string ⟨#[]⟩, .string ⟨#[]⟩, .int .i64 0], intV 3]) (by simp [results, Tryz.results70, go_sem, d0, d1, d2, d3]) rfl ⟨by rw [HRES.out]; try rfl, ?_⟩
              have hA : Below w.heap.size w wk := by rw [← HWA.out]; exact alloc_below _ _
              exact (below_then hA KF.out).trans ⟨by rw [← HW.out]; rfl, by rw [← HW.out]; rfl, by rw [← HW.out]; rfl, by omega, fun b hb => s2 b (by omega)⟩
        · have hz : zv = ⟨#[]⟩ := by rw [← HZV.out, e2]; rfl
          subst hz
          have E2 := Lib.hid e2
          have r32 : ((c.toNat : Int) != 32) = true := by rw [bne, q32]; rfl
          have r47 : ((c.toNat : Int) != 47) = false := by rw [bne, q47]; rfl
          clear e2
          go_wp2_with fail
          refine (HKN.out wk).mono ?_
          rintro e' w1 ⟨rfl, h1⟩
          have K1 := Lib.hid h1
          clear h1
          cases tg with
          | false =>
            have hres : r = ((0, [], []), 12) := by rw [← HR.out]; exact tagR_no HTG.out
            have HRES := Lib.hid hres
            have hbX := (K1.out.block w.heap.size (by have := HBS.out; omega)).trans HBX.out
            have hlX : w.heap.size < w1.heap.size := (Array.getElem?_eq_some_iff.1 hbX).1
            obtain ⟨k0, k1, k2, k3⟩ := heap4 hbX
            have f0 : ∀ o, w1.frozen? ⟨w.heap.size, o, none⟩ = false := fun o => by simp [World.frozen?, hbX]
            have f00 := f0 0
            have f01 := f0 1
            have f02 := f0 2
            have f03 := f0 3
            obtain ⟨W4, hW4⟩ : ∃ X, (((w1.setCell ⟨w.heap.size, 0, none⟩ (.int .i64 0)).setCell ⟨w.heap.size, 1, none⟩ (.string ⟨#[]⟩)).setCell ⟨w.heap.size, 2, none⟩ (.string ⟨#[]⟩)).setCell ⟨w.heap.size, 3, none⟩ (.int .i64 0) = X := ⟨_, rfl⟩
            have HS := Lib.hid (set4 hbX hW4)
            have HW := Lib.hid hW4
            clear hres hbX f0 hW4
            go_wp2
            rw [HW.out]
            obtain ⟨s1, s2, s3⟩ := HS.out
            obtain ⟨d0, d1, d2, d3⟩ := heap4 s1
            refine bodyPost_ret (v := .tuple #[.agg #[.int .i64 0, .string ⟨#[]⟩, .string ⟨#[]⟩, .int .i64 0], intV 12]) (by simp [results, Tryz.results70, go_sem, d0, d1, d2, d3]) rfl ⟨by rw [HRES.out]; try rfl, ?_⟩
            have hA : Below w.heap.size w wk := by rw [← HWA.out]; exact alloc_below _ _
            exact (below_then hA K1.out).trans ⟨by rw [← HW.out]; rfl, by rw [← HW.out]; rfl, by rw [← HW.out]; rfl, by omega, fun b hb => s2 b (by omega)⟩
          | true =>
            go_wp2_with fail
            refine (HFO.out 3 _).mono ?_
            rintro e' wf ⟨rfl, hf⟩
            have hxx : wf.heap[w1.heap.size]? = some (.cells #[.int .i64 3, .string zn, .string ⟨#[]⟩, .int .i64 0] 52 (0, 0)) := (hf.block w1.heap.size (by simp)).trans (heap_alloc_new _ _)
            have KF := Lib.hid (below_then K1.out (below_then (alloc_below w1 _) hf))
            have HXX := Lib.hid hxx
            clear hf hxx
            have hkd : kdOf p = 3 := kd_close HCL.out
            have HKD := Lib.hid hkd
            clear hkd
            by_cases heq : formF 3 (nmOf p) (vlOf p) = p
            · have hq : ((baL (formF 3 (nmOf p) (vlOf p))).toList == z0.toList) = true := by rw [heq, HZ.out.1, beq_self_eq_true]
              have hq2 : ((baL (formF 3 (nmOf p) (vlOf p))).toList != z0.toList) = false := by rw [bne, hq]; rfl
              have HEQ := Lib.hid heq
              clear heq
              go_wp2_with fail
              refine (HEM.out wf).mono ?_
              rintro e' wg ⟨rfl, rfl⟩
              cases em with
              | true =>
                have hres : r = ((0, [], []), 3) := by rw [← HR.out]; exact tagR_bad HTG.out (fun h => by have h2 := h.2; rw [HKD.out, good_closeM _ _ HTG.out, HEMB.out] at h2; exact absurd h2 (by simp))
                have HRES := Lib.hid hres
                have hbX := (KF.out.block w.heap.size (by have := HBS.out; omega)).trans HBX.out
                have hlX : w.heap.size < wg.heap.size := (Array.getElem?_eq_some_iff.1 hbX).1
                obtain ⟨k0, k1, k2, k3⟩ := heap4 hbX
                have f0 : ∀ o, wg.frozen? ⟨w.heap.size, o, none⟩ = false := fun o => by simp [World.frozen?, hbX]
                have f00 := f0 0
                have f01 := f0 1
                have f02 := f0 2
                have f03 := f0 3
                obtain ⟨W4, hW4⟩ : ∃ X, (((wg.setCell ⟨w.heap.size, 0, none⟩ (.int .i64 0)).setCell ⟨w.heap.size, 1, none⟩ (.string ⟨#[]⟩)).setCell ⟨w.heap.size, 2, none⟩ (.string ⟨#[]⟩)).setCell ⟨w.heap.size, 3, none⟩ (.int .i64 0) = X := ⟨_, rfl⟩
                have HS := Lib.hid (set4 hbX hW4)
                have HW := Lib.hid hW4
                clear hres hbX f0 hW4
                go_wp2
                rw [HW.out]
                obtain ⟨s1, s2, s3⟩ := HS.out
                obtain ⟨d0, d1, d2, d3⟩ := heap4 s1
                refine bodyPost_ret (v := .tuple #[.agg #[.int .i64 0, .string ⟨#[]⟩, .string ⟨#[]⟩, .int .i64 0], intV 3]) (by simp [results, Tryz.results70, go_sem, d0, d1, d2, d3]) rfl ⟨by rw [HRES.out]; try rfl, ?_⟩
                have hA : Below w.heap.size w wk := by rw [← HWA.out]; exact alloc_below _ _
                exact (below_then hA KF.out).trans ⟨by rw [← HW.out]; rfl, by rw [← HW.out]; rfl, by rw [← HW.out]; rfl, by omega, fun b hb => s2 b (by omega)⟩
              | false =>
                have hve : (⟨#[]⟩ : ByteArray).toList.isEmpty = true := by rw [ByteArray.toList_eq]; rfl
                have HVE := Lib.hid (show decide (vlOf p = []) = true from decide_eq_true E2.out)
                obtain ⟨x0, x1, x2, x3⟩ := heap4 HXX.out
                have hres : r = ((3, nmOf p, vlOf p), 0) := by rw [← HR.out]; exact (by have := tagR_ok HTG.out (by rw [HKD.out]; exact ⟨HEQ.out, by rw [good_closeM _ _ HTG.out, HEMB.out, HVE.out]; rfl⟩); rw [HKD.out] at this; exact this)
                have HRES := Lib.hid hres
                have hbX := (KF.out.block w.heap.size (by have := HBS.out; omega)).trans HBX.out
                have hlX : w.heap.size < wg.heap.size := (Array.getElem?_eq_some_iff.1 hbX).1
                obtain ⟨k0, k1, k2, k3⟩ := heap4 hbX
                have f0 : ∀ o, wg.frozen? ⟨w.heap.size, o, none⟩ = false := fun o => by simp [World.frozen?, hbX]
                have f00 := f0 0
                have f01 := f0 1
                have f02 := f0 2
                have f03 := f0 3
                obtain ⟨W4, hW4⟩ : ∃ X, (((wg.setCell ⟨w.heap.size, 0, none⟩ (.int .i64 3)).setCell ⟨w.heap.size, 1, none⟩ (.string zn)).setCell ⟨w.heap.size, 2, none⟩ (.string ⟨#[]⟩)).setCell ⟨w.heap.size, 3, none⟩ (.int .i64 0) = X := ⟨_, rfl⟩
                have HS := Lib.hid (set4 hbX hW4)
                have HW := Lib.hid hW4
                clear hres hbX f0 hW4
                go_wp2
                rw [HW.out]
                obtain ⟨s1, s2, s3⟩ := HS.out
                obtain ⟨d0, d1, d2, d3⟩ := heap4 s1
                refine bodyPost_ret (v := .tuple #[.agg #[.int .i64 3, .string zn, .string ⟨#[]⟩, .int .i64 0], intV 0]) (by simp [results, Tryz.results70, go_sem, d0, d1, d2, d3]) rfl ⟨by rw [HRES.out, ← HZ.out.2.2.2.1, ← HZV.out]; try rfl, ?_⟩
                have hA : Below w.heap.size w wk := by rw [← HWA.out]; exact alloc_below _ _
                exact (below_then hA KF.out).trans ⟨by rw [← HW.out]; rfl, by rw [← HW.out]; rfl, by rw [← HW.out]; rfl, by omega, fun b hb => s2 b (by omega)⟩
            · have hq : ((baL (formF 3 (nmOf p) (vlOf p))).toList == z0.toList) = false := by
                rw [beq_eq_false_iff_ne, ← HZ.out.1, baL_toList, baL_toList]; exact heq
              have hq2 : ((baL (formF 3 (nmOf p) (vlOf p))).toList != z0.toList) = true := by rw [bne, hq]; rfl
              have HEQ := Lib.hid heq
              clear heq
              have hres : r = ((0, [], []), 3) := by rw [← HR.out]; exact tagR_bad HTG.out (fun h => HEQ.out (by rw [HKD.out] at h; exact h.1))
              have HRES := Lib.hid hres
              have hbX := (KF.out.block w.heap.size (by have := HBS.out; omega)).trans HBX.out
              have hlX : w.heap.size < wf.heap.size := (Array.getElem?_eq_some_iff.1 hbX).1
              obtain ⟨k0, k1, k2, k3⟩ := heap4 hbX
              have f0 : ∀ o, wf.frozen? ⟨w.heap.size, o, none⟩ = false := fun o => by simp [World.frozen?, hbX]
              have f00 := f0 0
              have f01 := f0 1
              have f02 := f0 2
              have f03 := f0 3
              obtain ⟨W4, hW4⟩ : ∃ X, (((wf.setCell ⟨w.heap.size, 0, none⟩ (.int .i64 0)).setCell ⟨w.heap.size, 1, none⟩ (.string ⟨#[]⟩)).setCell ⟨w.heap.size, 2, none⟩ (.string ⟨#[]⟩)).setCell ⟨w.heap.size, 3, none⟩ (.int .i64 0) = X := ⟨_, rfl⟩
              have HS := Lib.hid (set4 hbX hW4)
              have HW := Lib.hid hW4
              clear hres hbX f0 hW4
              go_wp2
              rw [HW.out]
              obtain ⟨s1, s2, s3⟩ := HS.out
              obtain ⟨d0, d1, d2, d3⟩ := heap4 s1
              refine bodyPost_ret (v := .tuple #[.agg #[.int .i64 0, .string ⟨#[]⟩, .string ⟨#[]⟩, .int .i64 0], intV 3]) (by simp [results, Tryz.results70, go_sem, d0, d1, d2, d3]) rfl ⟨by rw [HRES.out]; try rfl, ?_⟩
              have hA : Below w.heap.size w wk := by rw [← HWA.out]; exact alloc_below _ _
              exact (below_then hA KF.out).trans ⟨by rw [← HW.out]; rfl, by rw [← HW.out]; rfl, by rw [← HW.out]; rfl, by omega, fun b hb => s2 b (by omega)⟩
        · have r32 : ((c.toNat : Int) != 32) = false := by rw [bne, q32]; rfl
          have HV2 := Lib.hid (HVAL.out e1 e2)
          clear e2
          go_wp2_with fail
          refine (HKN.out wk).mono ?_
          rintro e' w1 ⟨rfl, h1⟩
          have K1 := Lib.hid h1
          clear h1
          cases tg with
          | false =>
            have hres : r = ((0, [], []), 12) := by rw [← HR.out]; exact tagR_no HTG.out
            have HRES := Lib.hid hres
            have hbX := (K1.out.block w.heap.size (by have := HBS.out; omega)).trans HBX.out
            have hlX : w.heap.size < w1.heap.size := (Array.getElem?_eq_some_iff.1 hbX).1
            obtain ⟨k0, k1, k2, k3⟩ := heap4 hbX
            have f0 : ∀ o, w1.frozen? ⟨w.heap.size, o, none⟩ = false := fun o => by simp [World.frozen?, hbX]
            have f00 := f0 0
            have f01 := f0 1
            have f02 := f0 2
            have f03 := f0 3
            obtain ⟨W4, hW4⟩ : ∃ X, (((w1.setCell ⟨w.heap.size, 0, none⟩ (.int .i64 0)).setCell ⟨w.heap.size, 1, none⟩ (.string ⟨#[]⟩)).setCell ⟨w.heap.size, 2, none⟩ (.string ⟨#[]⟩)).setCell ⟨w.heap.size, 3, none⟩ (.int .i64 0) = X := ⟨_, rfl⟩
            have HS := Lib.hid (set4 hbX hW4)
            have HW := Lib.hid hW4
            clear hres hbX f0 hW4
            go_wp2
            rw [HW.out]
            obtain ⟨s1, s2, s3⟩ := HS.out
            obtain ⟨d0, d1, d2, d3⟩ := heap4 s1
            refine bodyPost_ret (v := .tuple #[.agg #[.int .i64 0, .string ⟨#[]⟩, .string ⟨#[]⟩, .int .i64 0], intV 12]) (by simp [results, Tryz.results70, go_sem, d0, d1, d2, d3]) rfl ⟨by rw [HRES.out]; try rfl, ?_⟩
            have hA : Below w.heap.size w wk := by rw [← HWA.out]; exact alloc_below _ _
            exact (below_then hA K1.out).trans ⟨by rw [← HW.out]; rfl, by rw [← HW.out]; rfl, by rw [← HW.out]; rfl, by omega, fun b hb => s2 b (by omega)⟩
          | true =>
            obtain ⟨hvj, hvend, hvx, hvn⟩ := HV2.out
            have HVJ := Lib.hid hvj
            have HVEND := Lib.hid hvend
            have hwn : IntKind.i64.wrap ((k : Int) + 1) = ((k + 1 : Nat) : Int) := by rw [show (k : Int) + 1 = ((k + 1 : Nat) : Int) by omega]; exact IntWalk.i64_in _ (by omega)
            obtain ⟨na, hna⟩ : ∃ n, k + 1 = n := ⟨_, rfl⟩
            rw [hna] at hwn hvx hvn
            clear hvj hvend
            go_wp2
            go_loopw [9] (fun iv wr => ∃ j : Nat, j ≤ vn ∧ iv = .int .i64 (na + j : Nat) ∧ wr = w1) (fun iv _ => na + vn - (intOf iv).toNat)
            case atStart => exact ⟨0, Nat.zero_le _, rfl, rfl⟩
            case round =>
              obtain ⟨j, hj, rfl, rfl⟩ := hrel
              obtain ⟨w1, rfl⟩ : ∃ x, x = wr := ⟨_, rfl⟩
              by_cases hlt2 : j < vn
              · obtain ⟨hjz, cj, hcj, qj⟩ := HVJ.out j hlt2
                have rj : ((cj.toNat : Int) != 47) = true := by rw [bne, qj]; rfl
                obtain ⟨mj, hmj⟩ : ∃ n, na + j = n := ⟨_, rfl⟩
                have hcj2 : ∃ h : mj < zt.size, zt[mj]'h = cj := by subst hmj; subst hna; exact ⟨hjz, hcj⟩
                obtain ⟨hjz2, hcj2⟩ := hcj2
                have hmt : mj < tl := by omega
                have HMJ := Lib.hid hmj
                rw [hmj]
                clear hcj hjz hmj
                go_wp2
                go_roundw
                case rel => exact ⟨j + 1, by omega, by have := HMJ.out; go_num, trivial⟩
                case measure => have := HMJ.out; simp [intOf]; omega
              · obtain rfl : j = vn := by omega
                obtain ⟨mj, hmj⟩ : ∃ n, na + j = n := ⟨_, rfl⟩
                rw [hmj] at hvx hvn ⊢
                have hnm : (na : Int) ≤ (mj : Int) := by omega
                have hends : (mj = tl) ∨ (mj < tl ∧ ∃ (h : mj < zt.size) (c : UInt8), zt[mj]'h = c ∧ ((c.toNat : Int) == 47) = true) := by
                  have := HVEND.out
                  subst hmj; subst hna; exact this
                clear hmj
                rcases hends with hme | ⟨hme, hmz, cm, hcm, qm⟩
                · have hmn : ¬ mj < tl := by omega
                  have HME := Lib.hid hme
                  clear hme
                  go_wp2_with fail
                  refine (HFO.out 3 _).mono ?_
                  rintro e' wf ⟨rfl, hf⟩
                  have hxx : wf.heap[w1.heap.size]? = some (.cells #[.int .i64 3, .string zn, .string zv, .int .i64 0] 52 (0, 0)) := (hf.block w1.heap.size (by simp)).trans (heap_alloc_new _ _)
                  have KF := Lib.hid (below_then K1.out (below_then (alloc_below w1 _) hf))
                  have HXX := Lib.hid hxx
                  clear hf hxx
                  have hkd : kdOf p = 3 := kd_close HCL.out
                  have HKD := Lib.hid hkd
                  clear hkd
                  by_cases heq : formF 3 (nmOf p) (vlOf p) = p
                  · have hq : ((baL (formF 3 (nmOf p) (vlOf p))).toList == z0.toList) = true := by rw [heq, HZ.out.1, beq_self_eq_true]
                    have hq2 : ((baL (formF 3 (nmOf p) (vlOf p))).toList != z0.toList) = false := by rw [bne, hq]; rfl
                    have HEQ := Lib.hid heq
                    clear heq
                    go_wp2_with fail
                    refine (HEM.out wf).mono ?_
                    rintro e' wg ⟨rfl, rfl⟩
                    cases em with
                    | true =>
                      have hres : r = ((0, [], []), 3) := by rw [← HR.out]; exact tagR_bad HTG.out (fun h => by have h2 := h.2; rw [HKD.out, good_closeM _ _ HTG.out, HEMB.out] at h2; exact absurd h2 (by simp))
                      have HRES := Lib.hid hres
                      have hbX := (KF.out.block w.heap.size (by have := HBS.out; omega)).trans HBX.out
                      have hlX : w.heap.size < wg.heap.size := (Array.getElem?_eq_some_iff.1 hbX).1
                      obtain ⟨k0, k1, k2, k3⟩ := heap4 hbX
                      have f0 : ∀ o, wg.frozen? ⟨w.heap.size, o, none⟩ = false := fun o => by simp [World.frozen?, hbX]
                      have f00 := f0 0
                      have f01 := f0 1
                      have f02 := f0 2
                      have f03 := f0 3
                      obtain ⟨W4, hW4⟩ : ∃ X, (((wg.setCell ⟨w.heap.size, 0, none⟩ (.int .i64 0)).setCell ⟨w.heap.size, 1, none⟩ (.string ⟨#[]⟩)).setCell ⟨w.heap.size, 2, none⟩ (.string ⟨#[]⟩)).setCell ⟨w.heap.size, 3, none⟩ (.int .i64 0) = X := ⟨_, rfl⟩
                      have HS := Lib.hid (set4 hbX hW4)
                      have HW := Lib.hid hW4
                      clear hres hbX f0 hW4
                      go_wp2
                      rw [HW.out]
                      obtain ⟨s1, s2, s3⟩ := HS.out
                      obtain ⟨d0, d1, d2, d3⟩ := heap4 s1
                      refine bodyPost_ret (v := .tuple #[.agg #[.int .i64 0, .string ⟨#[]⟩, .string ⟨#[]⟩, .int .i64 0], intV 3]) (by simp [results, Tryz.results70, go_sem, d0, d1, d2, d3]) rfl ⟨by rw [HRES.out]; try rfl, ?_⟩
                      have hA : Below w.heap.size w wk := by rw [← HWA.out]; exact alloc_below _ _
                      exact (below_then hA KF.out).trans ⟨by rw [← HW.out]; rfl, by rw [← HW.out]; rfl, by rw [← HW.out]; rfl, by omega, fun b hb => s2 b (by omega)⟩
                    | false =>
                      obtain ⟨ve, hve0⟩ : ∃ b, decide (vlOf p = []) = b := ⟨_, rfl⟩
                      have hve : zv.toList.isEmpty = ve := by rw [← HZV.out, baL_toList, ← hve0]; cases vlOf p <;> simp
                      have HVE := Lib.hid hve0
                      clear hve0
                      cases ve with
                      | true =>
                        obtain ⟨x0, x1, x2, x3⟩ := heap4 HXX.out
                        have hres : r = ((3, nmOf p, vlOf p), 0) := by rw [← HR.out]; exact (by have := tagR_ok HTG.out (by rw [HKD.out]; exact ⟨HEQ.out, by rw [good_closeM _ _ HTG.out, HEMB.out, HVE.out]; rfl⟩); rw [HKD.out] at this; exact this)
                        have HRES := Lib.hid hres
                        have hbX := (KF.out.block w.heap.size (by have := HBS.out; omega)).trans HBX.out
                        have hlX : w.heap.size < wg.heap.size := (Array.getElem?_eq_some_iff.1 hbX).1
                        obtain ⟨k0, k1, k2, k3⟩ := heap4 hbX
                        have f0 : ∀ o, wg.frozen? ⟨w.heap.size, o, none⟩ = false := fun o => by simp [World.frozen?, hbX]
                        have f00 := f0 0
                        have f01 := f0 1
                        have f02 := f0 2
                        have f03 := f0 3
                        obtain ⟨W4, hW4⟩ : ∃ X, (((wg.setCell ⟨w.heap.size, 0, none⟩ (.int .i64 3)).setCell ⟨w.heap.size, 1, none⟩ (.string zn)).setCell ⟨w.heap.size, 2, none⟩ (.string zv)).setCell ⟨w.heap.size, 3, none⟩ (.int .i64 0) = X := ⟨_, rfl⟩
                        have HS := Lib.hid (set4 hbX hW4)
                        have HW := Lib.hid hW4
                        clear hres hbX f0 hW4
                        go_wp2
                        rw [HW.out]
                        obtain ⟨s1, s2, s3⟩ := HS.out
                        obtain ⟨d0, d1, d2, d3⟩ := heap4 s1
                        refine bodyPost_ret (v := .tuple #[.agg #[.int .i64 3, .string zn, .string zv, .int .i64 0], intV 0]) (by simp [results, Tryz.results70, go_sem, d0, d1, d2, d3]) rfl ⟨by rw [HRES.out, ← HZ.out.2.2.2.1, ← HZV.out]; try rfl, ?_⟩
                        have hA : Below w.heap.size w wk := by rw [← HWA.out]; exact alloc_below _ _
                        exact (below_then hA KF.out).trans ⟨by rw [← HW.out]; rfl, by rw [← HW.out]; rfl, by rw [← HW.out]; rfl, by omega, fun b hb => s2 b (by omega)⟩
                      | false =>
                        have hres : r = ((0, [], []), 3) := by rw [← HR.out]; exact tagR_bad HTG.out (fun h => by have h2 := h.2; rw [HKD.out, good_closeM _ _ HTG.out, HEMB.out, HVE.out] at h2; exact absurd h2 (by simp))
                        have HRES := Lib.hid hres
                        have hbX := (KF.out.block w.heap.size (by have := HBS.out; omega)).trans HBX.out
                        have hlX : w.heap.size < wg.heap.size := (Array.getElem?_eq_some_iff.1 hbX).1
                        obtain ⟨k0, k1, k2, k3⟩ := heap4 hbX
                        have f0 : ∀ o, wg.frozen? ⟨w.heap.size, o, none⟩ = false := fun o => by simp [World.frozen?, hbX]
                        have f00 := f0 0
                        have f01 := f0 1
                        have f02 := f0 2
                        have f03 := f0 3
                        obtain ⟨W4, hW4⟩ : ∃ X, (((wg.setCell ⟨w.heap.size, 0, none⟩ (.int .i64 0)).setCell ⟨w.heap.size, 1, none⟩ (.string ⟨#[]⟩)).setCell ⟨w.heap.size, 2, none⟩ (.string ⟨#[]⟩)).setCell ⟨w.heap.size, 3, none⟩ (.int .i64 0) = X := ⟨_, rfl⟩
                        have HS := Lib.hid (set4 hbX hW4)
                        have HW := Lib.hid hW4
                        clear hres hbX f0 hW4
                        go_wp2
                        rw [HW.out]
                        obtain ⟨s1, s2, s3⟩ := HS.out
                        obtain ⟨d0, d1, d2, d3⟩ := heap4 s1
                        refine bodyPost_ret (v := .tuple #[.agg #[.int .i64 0, .string ⟨#[]⟩, .string ⟨#[]⟩, .int .i64 0], intV 3]) (by simp [results, Tryz.results70, go_sem, d0, d1, d2, d3]) rfl ⟨by rw [HRES.out]; try rfl, ?_⟩
                        have hA : Below w.heap.size w wk := by rw [← HWA.out]; exact alloc_below _ _
                        exact (below_then hA KF.out).trans ⟨by rw [← HW.out]; rfl, by rw [← HW.out]; rfl, by rw [← HW.out]; rfl, by omega, fun b hb => s2 b (by omega)⟩
                  · have hq : ((baL (formF 3 (nmOf p) (vlOf p))).toList == z0.toList) = false := by
                      rw [beq_eq_false_iff_ne, ← HZ.out.1, baL_toList, baL_toList]; exact heq
                    have hq2 : ((baL (formF 3 (nmOf p) (vlOf p))).toList != z0.toList) = true := by rw [bne, hq]; rfl
                    have HEQ := Lib.hid heq
                    clear heq
                    have hres : r = ((0, [], []), 3) := by rw [← HR.out]; exact tagR_bad HTG.out (fun h => HEQ.out (by rw [HKD.out] at h; exact h.1))
                    have HRES := Lib.hid hres
                    have hbX := (KF.out.block w.heap.size (by have := HBS.out; omega)).trans HBX.out
                    have hlX : w.heap.size < wf.heap.size := (Array.getElem?_eq_some_iff.1 hbX).1
                    obtain ⟨k0, k1, k2, k3⟩ := heap4 hbX
                    have f0 : ∀ o, wf.frozen? ⟨w.heap.size, o, none⟩ = false := fun o => by simp [World.frozen?, hbX]
                    have f00 := f0 0
                    have f01 := f0 1
                    have f02 := f0 2
                    have f03 := f0 3
                    obtain ⟨W4, hW4⟩ : ∃ X, (((wf.setCell ⟨w.heap.size, 0, none⟩ (.int .i64 0)).setCell ⟨w.heap.size, 1, none⟩ (.string ⟨#[]⟩)).setCell ⟨w.heap.size, 2, none⟩ (.string ⟨#[]⟩)).setCell ⟨w.heap.size, 3, none⟩ (.int .i64 0) = X := ⟨_, rfl⟩
                    have HS := Lib.hid (set4 hbX hW4)
                    have HW := Lib.hid hW4
                    clear hres hbX f0 hW4
                    go_wp2
                    rw [HW.out]
                    obtain ⟨s1, s2, s3⟩ := HS.out
                    obtain ⟨d0, d1, d2, d3⟩ := heap4 s1
                    refine bodyPost_ret (v := .tuple #[.agg #[.int .i64 0, .string ⟨#[]⟩, .string ⟨#[]⟩, .int .i64 0], intV 3]) (by simp [results, Tryz.results70, go_sem, d0, d1, d2, d3]) rfl ⟨by rw [HRES.out]; try rfl, ?_⟩
                    have hA : Below w.heap.size w wk := by rw [← HWA.out]; exact alloc_below _ _
                    exact (below_then hA KF.out).trans ⟨by rw [← HW.out]; rfl, by rw [← HW.out]; rfl, by rw [← HW.out]; rfl, by omega, fun b hb => s2 b (by omega)⟩
                · have rm : ((cm.toNat : Int) != 47) = false := by rw [bne, qm]; rfl
                  go_wp2_with fail
                  refine (HFO.out 3 _).mono ?_
                  rintro e' wf ⟨rfl, hf⟩
                  have hxx : wf.heap[w1.heap.size]? = some (.cells #[.int .i64 3, .string zn, .string zv, .int .i64 0] 52 (0, 0)) := (hf.block w1.heap.size (by simp)).trans (heap_alloc_new _ _)
                  have KF := Lib.hid (below_then K1.out (below_then (alloc_below w1 _) hf))
                  have HXX := Lib.hid hxx
                  clear hf hxx
                  have hkd : kdOf p = 3 := kd_close HCL.out
                  have HKD := Lib.hid hkd
                  clear hkd
                  by_cases heq : formF 3 (nmOf p) (vlOf p) = p
                  · have hq : ((baL (formF 3 (nmOf p) (vlOf p))).toList == z0.toList) = true := by rw [heq, HZ.out.1, beq_self_eq_true]
                    have hq2 : ((baL (formF 3 (nmOf p) (vlOf p))).toList != z0.toList) = false := by rw [bne, hq]; rfl
                    have HEQ := Lib.hid heq
                    clear heq
                    go_wp2_with fail
                    refine (HEM.out wf).mono ?_
                    rintro e' wg ⟨rfl, rfl⟩
                    cases em with
                    | true =>
                      have hres : r = ((0, [], []), 3) := by rw [← HR.out]; exact tagR_bad HTG.out (fun h => by have h2 := h.2; rw [HKD.out, good_closeM _ _ HTG.out, HEMB.out] at h2; exact absurd h2 (by simp))
                      have HRES := Lib.hid hres
                      have hbX := (KF.out.block w.heap.size (by have := HBS.out; omega)).trans HBX.out
                      have hlX : w.heap.size < wg.heap.size := (Array.getElem?_eq_some_iff.1 hbX).1
                      obtain ⟨k0, k1, k2, k3⟩ := heap4 hbX
                      have f0 : ∀ o, wg.frozen? ⟨w.heap.size, o, none⟩ = false := fun o => by simp [World.frozen?, hbX]
                      have f00 := f0 0
                      have f01 := f0 1
                      have f02 := f0 2
                      have f03 := f0 3
                      obtain ⟨W4, hW4⟩ : ∃ X, (((wg.setCell ⟨w.heap.size, 0, none⟩ (.int .i64 0)).setCell ⟨w.heap.size, 1, none⟩ (.string ⟨#[]⟩)).setCell ⟨w.heap.size, 2, none⟩ (.string ⟨#[]⟩)).setCell ⟨w.heap.size, 3, none⟩ (.int .i64 0) = X := ⟨_, rfl⟩
                      have HS := Lib.hid (set4 hbX hW4)
                      have HW := Lib.hid hW4
                      clear hres hbX f0 hW4
                      go_wp2
                      rw [HW.out]
                      obtain ⟨s1, s2, s3⟩ := HS.out
                      obtain ⟨d0, d1, d2, d3⟩ := heap4 s1
                      refine bodyPost_ret (v := .tuple #[.agg #[.int .i64 0, .string ⟨#[]⟩, .string ⟨#[]⟩, .int .i64 0], intV 3]) (by simp [results, Tryz.results70, go_sem, d0, d1, d2, d3]) rfl ⟨by rw [HRES.out]; try rfl, ?_⟩
                      have hA : Below w.heap.size w wk := by rw [← HWA.out]; exact alloc_below _ _
                      exact (below_then hA KF.out).trans ⟨by rw [← HW.out]; rfl, by rw [← HW.out]; rfl, by rw [← HW.out]; rfl, by omega, fun b hb => s2 b (by omega)⟩
                    | false =>
                      obtain ⟨ve, hve0⟩ : ∃ b, decide (vlOf p = []) = b := ⟨_, rfl⟩
                      have hve : zv.toList.isEmpty = ve := by rw [← HZV.out, baL_toList, ← hve0]; cases vlOf p <;> simp
                      have HVE := Lib.hid hve0
                      clear hve0
                      cases ve with
                      | true =>
                        obtain ⟨x0, x1, x2, x3⟩ := heap4 HXX.out
                        have hres : r = ((3, nmOf p, vlOf p), 0) := by rw [← HR.out]; exact (by have := tagR_ok HTG.out (by rw [HKD.out]; exact ⟨HEQ.out, by rw [good_closeM _ _ HTG.out, HEMB.out, HVE.out]; rfl⟩); rw [HKD.out] at this; exact this)
                        have HRES := Lib.hid hres
                        have hbX := (KF.out.block w.heap.size (by have := HBS.out; omega)).trans HBX.out
                        have hlX : w.heap.size < wg.heap.size := (Array.getElem?_eq_some_iff.1 hbX).1
                        obtain ⟨k0, k1, k2, k3⟩ := heap4 hbX
                        have f0 : ∀ o, wg.frozen? ⟨w.heap.size, o, none⟩ = false := fun o => by simp [World.frozen?, hbX]
                        have f00 := f0 0
                        have f01 := f0 1
                        have f02 := f0 2
                        have f03 := f0 3
                        obtain ⟨W4, hW4⟩ : ∃ X, (((wg.setCell ⟨w.heap.size, 0, none⟩ (.int .i64 3)).setCell ⟨w.heap.size, 1, none⟩ (.string zn)).setCell ⟨w.heap.size, 2, none⟩ (.string zv)).setCell ⟨w.heap.size, 3, none⟩ (.int .i64 0) = X := ⟨_, rfl⟩
                        have HS := Lib.hid (set4 hbX hW4)
                        have HW := Lib.hid hW4
                        clear hres hbX f0 hW4
                        go_wp2
                        rw [HW.out]
                        obtain ⟨s1, s2, s3⟩ := HS.out
                        obtain ⟨d0, d1, d2, d3⟩ := heap4 s1
                        refine bodyPost_ret (v := .tuple #[.agg #[.int .i64 3, .string zn, .string zv, .int .i64 0], intV 0]) (by simp [results, Tryz.results70, go_sem, d0, d1, d2, d3]) rfl ⟨by rw [HRES.out, ← HZ.out.2.2.2.1, ← HZV.out]; try rfl, ?_⟩
                        have hA : Below w.heap.size w wk := by rw [← HWA.out]; exact alloc_below _ _
                        exact (below_then hA KF.out).trans ⟨by rw [← HW.out]; rfl, by rw [← HW.out]; rfl, by rw [← HW.out]; rfl, by omega, fun b hb => s2 b (by omega)⟩
                      | false =>
                        have hres : r = ((0, [], []), 3) := by rw [← HR.out]; exact tagR_bad HTG.out (fun h => by have h2 := h.2; rw [HKD.out, good_closeM _ _ HTG.out, HEMB.out, HVE.out] at h2; exact absurd h2 (by simp))
                        have HRES := Lib.hid hres
                        have hbX := (KF.out.block w.heap.size (by have := HBS.out; omega)).trans HBX.out
                        have hlX : w.heap.size < wg.heap.size := (Array.getElem?_eq_some_iff.1 hbX).1
                        obtain ⟨k0, k1, k2, k3⟩ := heap4 hbX
                        have f0 : ∀ o, wg.frozen? ⟨w.heap.size, o, none⟩ = false := fun o => by simp [World.frozen?, hbX]
                        have f00 := f0 0
                        have f01 := f0 1
                        have f02 := f0 2
                        have f03 := f0 3
                        obtain ⟨W4, hW4⟩ : ∃ X, (((wg.setCell ⟨w.heap.size, 0, none⟩ (.int .i64 0)).setCell ⟨w.heap.size, 1, none⟩ (.string ⟨#[]⟩)).setCell ⟨w.heap.size, 2, none⟩ (.string ⟨#[]⟩)).setCell ⟨w.heap.size, 3, none⟩ (.int .i64 0) = X := ⟨_, rfl⟩
                        have HS := Lib.hid (set4 hbX hW4)
                        have HW := Lib.hid hW4
                        clear hres hbX f0 hW4
                        go_wp2
                        rw [HW.out]
                        obtain ⟨s1, s2, s3⟩ := HS.out
                        obtain ⟨d0, d1, d2, d3⟩ := heap4 s1
                        refine bodyPost_ret (v := .tuple #[.agg #[.int .i64 0, .string ⟨#[]⟩, .string ⟨#[]⟩, .int .i64 0], intV 3]) (by simp [results, Tryz.results70, go_sem, d0, d1, d2, d3]) rfl ⟨by rw [HRES.out]; try rfl, ?_⟩
                        have hA : Below w.heap.size w wk := by rw [← HWA.out]; exact alloc_below _ _
                        exact (below_then hA KF.out).trans ⟨by rw [← HW.out]; rfl, by rw [← HW.out]; rfl, by rw [← HW.out]; rfl, by omega, fun b hb => s2 b (by omega)⟩
                  · have hq : ((baL (formF 3 (nmOf p) (vlOf p))).toList == z0.toList) = false := by
                      rw [beq_eq_false_iff_ne, ← HZ.out.1, baL_toList, baL_toList]; exact heq
                    have hq2 : ((baL (formF 3 (nmOf p) (vlOf p))).toList != z0.toList) = true := by rw [bne, hq]; rfl
                    have HEQ := Lib.hid heq
                    clear heq
                    have hres : r = ((0, [], []), 3) := by rw [← HR.out]; exact tagR_bad HTG.out (fun h => HEQ.out (by rw [HKD.out] at h; exact h.1))
                    have HRES := Lib.hid hres
                    have hbX := (KF.out.block w.heap.size (by have := HBS.out; omega)).trans HBX.out
                    have hlX : w.heap.size < wf.heap.size := (Array.getElem?_eq_some_iff.1 hbX).1
                    obtain ⟨k0, k1, k2, k3⟩ := heap4 hbX
                    have f0 : ∀ o, wf.frozen? ⟨w.heap.size, o, none⟩ = false := fun o => by simp [World.frozen?, hbX]
                    have f00 := f0 0
                    have f01 := f0 1
                    have f02 := f0 2
                    have f03 := f0 3
                    obtain ⟨W4, hW4⟩ : ∃ X, (((wf.setCell ⟨w.heap.size, 0, none⟩ (.int .i64 0)).setCell ⟨w.heap.size, 1, none⟩ (.string ⟨#[]⟩)).setCell ⟨w.heap.size, 2, none⟩ (.string ⟨#[]⟩)).setCell ⟨w.heap.size, 3, none⟩ (.int .i64 0) = X := ⟨_, rfl⟩
                    have HS := Lib.hid (set4 hbX hW4)
                    have HW := Lib.hid hW4
                    clear hres hbX f0 hW4
                    go_wp2
                    rw [HW.out]
                    obtain ⟨s1, s2, s3⟩ := HS.out
                    obtain ⟨d0, d1, d2, d3⟩ := heap4 s1
                    refine bodyPost_ret (v := .tuple #[.agg #[.int .i64 0, .string ⟨#[]⟩, .string ⟨#[]⟩, .int .i64 0], intV 3]) (by simp [results, Tryz.results70, go_sem, d0, d1, d2, d3]) rfl ⟨by rw [HRES.out]; try rfl, ?_⟩
                    have hA : Below w.heap.size w wk := by rw [← HWA.out]; exact alloc_below _ _
                    exact (below_then hA KF.out).trans ⟨by rw [← HW.out]; rfl, by rw [← HW.out]; rfl, by rw [← HW.out]; rfl, by omega, fun b hb => s2 b (by omega)⟩
  · clear hcl
    go_enter Tryz.func70, Tryz.ntmps70
    go_wp2
    rw [HWA.out]
    go_loopw [6] (fun iv wr => ∃ k : Nat, k ≤ nl ∧ iv = .int .i64 k ∧ wr = wa) (fun iv _ => nl - (intOf iv).toNat)
    case atStart => exact ⟨0, Nat.zero_le _, rfl, rfl⟩
    case round =>
      obtain ⟨k, hk, rfl, rfl⟩ := hrel
      obtain ⟨wk, rfl⟩ : ∃ x, x = wr := ⟨_, rfl⟩
      by_cases hlt : k < nl
      · obtain ⟨hkz, c, hc, q32, q47⟩ := HTW.out k hlt
        have r32 : ((c.toNat : Int) != 32) = true := by rw [bne, q32]; rfl
        have r47 : ((c.toNat : Int) != 47) = true := by rw [bne, q47]; rfl
        have hkt : k < tl := by omega
        go_wp2
        go_roundw
        case rel => exact ⟨k + 1, by omega, by go_num, trivial⟩
        case measure => simp [intOf]; omega
      · obtain rfl : k = nl := by omega
        have hbx : wk.heap[w.heap.size]? = some (.cells #[.int .i64 0, .string ⟨#[]⟩, .string ⟨#[]⟩, .int .i64 0] 52 (0, 0)) := by rw [← HWA.out]; exact heap_alloc_new _ _
        have hbs : wk.heap.size = w.heap.size + 1 := by rw [← HWA.out]; simp
        have HBX := Lib.hid hbx
        have HBS := Lib.hid hbs
        have hk0 : (0 : Int) ≤ (k : Int) := by omega
        clear hbx hbs
        rcases HWAY.out with ⟨e1, e2⟩ | ⟨e1, e2, hkz, c, hc, q32, q47⟩ | ⟨e1, e2, hkz, c, hc, q32⟩
        · have hz : zv = ⟨#[]⟩ := by rw [← HZV.out, e2]; rfl
          subst hz
          have E2 := Lib.hid e2
          have hnt : ¬ k < tl := by omega
          have hnt2 : (k : Int) ≤ (tl : Int) := by omega
          have HE1 := Lib.hid e1
          clear e1 e2
          go_wp2_with fail
          refine (HKN.out wk).mono ?_
          rintro e' w1 ⟨rfl, h1⟩
          have K1 := Lib.hid h1
          clear h1
          cases tg with
          | false =>
            have hres : r = ((0, [], []), 12) := by rw [← HR.out]; exact tagR_no HTG.out
            have HRES := Lib.hid hres
            have hbX := (K1.out.block w.heap.size (by have := HBS.out; omega)).trans HBX.out
            have hlX : w.heap.size < w1.heap.size := (Array.getElem?_eq_some_iff.1 hbX).1
            obtain ⟨k0, k1, k2, k3⟩ := heap4 hbX
            have f0 : ∀ o, w1.frozen? ⟨w.heap.size, o, none⟩ = false := fun o => by simp [World.frozen?, hbX]
            have f00 := f0 0
            have f01 := f0 1
            have f02 := f0 2
            have f03 := f0 3
            obtain ⟨W4, hW4⟩ : ∃ X, (((w1.setCell ⟨w.heap.size, 0, none⟩ (.int .i64 0)).setCell ⟨w.heap.size, 1, none⟩ (.string ⟨#[]⟩)).setCell ⟨w.heap.size, 2, none⟩ (.string ⟨#[]⟩)).setCell ⟨w.heap.size, 3, none⟩ (.int .i64 0) = X := ⟨_, rfl⟩
            have HS := Lib.hid (set4 hbX hW4)
            have HW := Lib.hid hW4
            clear hres hbX f0 hW4
            go_wp2
            rw [HW.out]
            obtain ⟨s1, s2, s3⟩ := HS.out
            obtain ⟨d0, d1, d2, d3⟩ := heap4 s1
            refine bodyPost_ret (v := .tuple #[.agg #[.int .i64 0, .string ⟨#[]⟩, .string ⟨#[]⟩, .int .i64 0], intV 12]) (by simp [results, Tryz.results70, go_sem, d0, d1, d2, d3]) rfl ⟨by rw [HRES.out]; try rfl, ?_⟩
            have hA : Below w.heap.size w wk := by rw [← HWA.out]; exact alloc_below _ _
            exact (below_then hA K1.out).trans ⟨by rw [← HW.out]; rfl, by rw [← HW.out]; rfl, by rw [← HW.out]; rfl, by omega, fun b hb => s2 b (by omega)⟩
          | true =>
            go_wp2_with fail
            refine (HEM.out _).mono ?_
            rintro e' wy ⟨rfl, rfl⟩
            cases em with
            | true =>
              go_wp2_with fail
              refine (HFO.out 4 _).mono ?_
              rintro e' wf ⟨rfl, hf⟩
              have hxx : wf.heap[w1.heap.size]? = some (.cells #[.int .i64 4, .string zn, .string ⟨#[]⟩, .int .i64 0] 52 (0, 0)) := (hf.block w1.heap.size (by simp)).trans (heap_alloc_new _ _)
              have KF := Lib.hid (below_then K1.out (below_then (alloc_below w1 _) hf))
              have HXX := Lib.hid hxx
              clear hf hxx
              have hkd : kdOf p = 4 := kd_empty HCL.out HEMB.out
              have HKD := Lib.hid hkd
              clear hkd
              by_cases heq : formF 4 (nmOf p) (vlOf p) = p
              · have hq : ((baL (formF 4 (nmOf p) (vlOf p))).toList == z0.toList) = true := by rw [heq, HZ.out.1, beq_self_eq_true]
                have hq2 : ((baL (formF 4 (nmOf p) (vlOf p))).toList != z0.toList) = false := by rw [bne, hq]; rfl
                have HEQ := Lib.hid heq
                clear heq
                go_wp2_with fail
                refine (HRI.out wf).mono ?_
                rintro e' wg ⟨rfl, hg⟩
                have KG := Lib.hid (below_then KF.out hg)
                have HXG := Lib.hid ((hg.block w1.heap.size (Array.getElem?_eq_some_iff.1 HXX.out).1).trans HXX.out)
                clear hg
                cases rt with
                | true =>
                  obtain ⟨x0, x1, x2, x3⟩ := heap4 HXG.out
                  have hres : r = ((4, nmOf p, vlOf p), 0) := by rw [← HR.out]; exact (by have := tagR_ok HTG.out (by rw [HKD.out]; exact ⟨HEQ.out, by rw [good_emptyM _ _ HEMB.out]; exact HRT.out⟩); rw [HKD.out] at this; exact this)
                  have HRES := Lib.hid hres
                  have hbX := (KG.out.block w.heap.size (by have := HBS.out; omega)).trans HBX.out
                  have hlX : w.heap.size < wg.heap.size := (Array.getElem?_eq_some_iff.1 hbX).1
                  obtain ⟨k0, k1, k2, k3⟩ := heap4 hbX
                  have f0 : ∀ o, wg.frozen? ⟨w.heap.size, o, none⟩ = false := fun o => by simp [World.frozen?, hbX]
                  have f00 := f0 0
                  have f01 := f0 1
                  have f02 := f0 2
                  have f03 := f0 3
                  obtain ⟨W4, hW4⟩ : ∃ X, (((wg.setCell ⟨w.heap.size, 0, none⟩ (.int .i64 4)).setCell ⟨w.heap.size, 1, none⟩ (.string zn)).setCell ⟨w.heap.size, 2, none⟩ (.string ⟨#[]⟩)).setCell ⟨w.heap.size, 3, none⟩ (.int .i64 0) = X := ⟨_, rfl⟩
                  have HS := Lib.hid (set4 hbX hW4)
                  have HW := Lib.hid hW4
                  clear hres hbX f0 hW4
                  go_wp2
                  rw [HW.out]
                  obtain ⟨s1, s2, s3⟩ := HS.out
                  obtain ⟨d0, d1, d2, d3⟩ := heap4 s1
                  refine bodyPost_ret (v := .tuple #[.agg #[.int .i64 4, .string zn, .string ⟨#[]⟩, .int .i64 0], intV 0]) (by simp [results, Tryz.results70, go_sem, d0, d1, d2, d3]) rfl ⟨by rw [HRES.out, ← HZ.out.2.2.2.1, ← HZV.out]; try rfl, ?_⟩
                  have hA : Below w.heap.size w wk := by rw [← HWA.out]; exact alloc_below _ _
                  exact (below_then hA KG.out).trans ⟨by rw [← HW.out]; rfl, by rw [← HW.out]; rfl, by rw [← HW.out]; rfl, by omega, fun b hb => s2 b (by omega)⟩
                | false =>
                  have hres : r = ((0, [], []), 3) := by rw [← HR.out]; exact tagR_bad HTG.out (fun h => by have h2 := h.2; rw [HKD.out, good_emptyM _ _ HEMB.out, HRT.out] at h2; exact absurd h2 (by simp))
                  have HRES := Lib.hid hres
                  have hbX := (KG.out.block w.heap.size (by have := HBS.out; omega)).trans HBX.out
                  have hlX : w.heap.size < wg.heap.size := (Array.getElem?_eq_some_iff.1 hbX).1
                  obtain ⟨k0, k1, k2, k3⟩ := heap4 hbX
                  have f0 : ∀ o, wg.frozen? ⟨w.heap.size, o, none⟩ = false := fun o => by simp [World.frozen?, hbX]
                  have f00 := f0 0
                  have f01 := f0 1
                  have f02 := f0 2
                  have f03 := f0 3
                  obtain ⟨W4, hW4⟩ : ∃ X, (((wg.setCell ⟨w.heap.size, 0, none⟩ (.int .i64 0)).setCell ⟨w.heap.size, 1, none⟩ (.string ⟨#[]⟩)).setCell ⟨w.heap.size, 2, none⟩ (.string ⟨#[]⟩)).setCell ⟨w.heap.size, 3, none⟩ (.int .i64 0) = X := ⟨_, rfl⟩
                  have HS := Lib.hid (set4 hbX hW4)
                  have HW := Lib.hid hW4
                  clear hres hbX f0 hW4
                  go_wp2
                  rw [HW.out]
                  obtain ⟨s1, s2, s3⟩ := HS.out
                  obtain ⟨d0, d1, d2, d3⟩ := heap4 s1
                  refine bodyPost_ret (v := .tuple #[.agg #[.int .i64 0, .string ⟨#[]⟩, .string ⟨#[]⟩, .int .i64 0], intV 3]) (by simp [results, Tryz.results70, go_sem, d0, d1, d2, d3]) rfl ⟨by rw [HRES.out]; try rfl, ?_⟩
                  have hA : Below w.heap.size w wk := by rw [← HWA.out]; exact alloc_below _ _
                  exact (below_then hA KG.out).trans ⟨by rw [← HW.out]; rfl, by rw [← HW.out]; rfl, by rw [← HW.out]; rfl, by omega, fun b hb => s2 b (by omega)⟩
              · have hq : ((baL (formF 4 (nmOf p) (vlOf p))).toList == z0.toList) = false := by
                  rw [beq_eq_false_iff_ne, ← HZ.out.1, baL_toList, baL_toList]; exact heq
                have hq2 : ((baL (formF 4 (nmOf p) (vlOf p))).toList != z0.toList) = true := by rw [bne, hq]; rfl
                have HEQ := Lib.hid heq
                clear heq
                have hres : r = ((0, [], []), 3) := by rw [← HR.out]; exact tagR_bad HTG.out (fun h => HEQ.out (by rw [HKD.out] at h; exact h.1))
                have HRES := Lib.hid hres
                have hbX := (KF.out.block w.heap.size (by have := HBS.out; omega)).trans HBX.out
                have hlX : w.heap.size < wf.heap.size := (Array.getElem?_eq_some_iff.1 hbX).1
                obtain ⟨k0, k1, k2, k3⟩ := heap4 hbX
                have f0 : ∀ o, wf.frozen? ⟨w.heap.size, o, none⟩ = false := fun o => by simp [World.frozen?, hbX]
                have f00 := f0 0
                have f01 := f0 1
                have f02 := f0 2
                have f03 := f0 3
                obtain ⟨W4, hW4⟩ : ∃ X, (((wf.setCell ⟨w.heap.size, 0, none⟩ (.int .i64 0)).setCell ⟨w.heap.size, 1, none⟩ (.string ⟨#[]⟩)).setCell ⟨w.heap.size, 2, none⟩ (.string ⟨#[]⟩)).setCell ⟨w.heap.size, 3, none⟩ (.int .i64 0) = X := ⟨_, rfl⟩
                have HS := Lib.hid (set4 hbX hW4)
                have HW := Lib.hid hW4
                clear hres hbX f0 hW4
                go_wp2
                rw [HW.out]
                obtain ⟨s1, s2, s3⟩ := HS.out
                obtain ⟨d0, d1, d2, d3⟩ := heap4 s1
                refine bodyPost_ret (v := .tuple #[.agg #[.int .i64 0, .string ⟨#[]⟩, .string ⟨#[]⟩, .int .i64 0], intV 3]) (by simp [results, Tryz.results70, go_sem, d0, d1, d2, d3]) rfl ⟨by rw [HRES.out]; try rfl, ?_⟩
                have hA : Below w.heap.size w wk := by rw [← HWA.out]; exact alloc_below _ _
                exact (below_then hA KF.out).trans ⟨by rw [← HW.out]; rfl, by rw [← HW.out]; rfl, by rw [← HW.out]; rfl, by omega, fun b hb => s2 b (by omega)⟩
            | false =>
              go_wp2_with fail
              refine (HFO.out 2 _).mono ?_
              rintro e' wf ⟨rfl, hf⟩
              have hxx : wf.heap[w1.heap.size]? = some (.cells #[.int .i64 2, .string zn, .string ⟨#[]⟩, .int .i64 0] 52 (0, 0)) := (hf.block w1.heap.size (by simp)).trans (heap_alloc_new _ _)
              have KF := Lib.hid (below_then K1.out (below_then (alloc_below w1 _) hf))
              have HXX := Lib.hid hxx
              clear hf hxx
              have hkd : kdOf p = 2 := kd_open HCL.out HEMB.out
              have HKD := Lib.hid hkd
              clear hkd
              by_cases heq : formF 2 (nmOf p) (vlOf p) = p
              · have hq : ((baL (formF 2 (nmOf p) (vlOf p))).toList == z0.toList) = true := by rw [heq, HZ.out.1, beq_self_eq_true]
                have hq2 : ((baL (formF 2 (nmOf p) (vlOf p))).toList != z0.toList) = false := by rw [bne, hq]; rfl
                have HEQ := Lib.hid heq
                clear heq
                go_wp2_with fail
                refine (HRI.out wf).mono ?_
                rintro e' wg ⟨rfl, hg⟩
                have KG := Lib.hid (below_then KF.out hg)
                have HXG := Lib.hid ((hg.block w1.heap.size (Array.getElem?_eq_some_iff.1 HXX.out).1).trans HXX.out)
                clear hg
                cases rt with
                | true =>
                  obtain ⟨x0, x1, x2, x3⟩ := heap4 HXG.out
                  have hres : r = ((2, nmOf p, vlOf p), 0) := by rw [← HR.out]; exact (by have := tagR_ok HTG.out (by rw [HKD.out]; exact ⟨HEQ.out, by rw [good_openM _ _ HTG.out HEMB.out]; exact HRT.out⟩); rw [HKD.out] at this; exact this)
                  have HRES := Lib.hid hres
                  have hbX := (KG.out.block w.heap.size (by have := HBS.out; omega)).trans HBX.out
                  have hlX : w.heap.size < wg.heap.size := (Array.getElem?_eq_some_iff.1 hbX).1
                  obtain ⟨k0, k1, k2, k3⟩ := heap4 hbX
                  have f0 : ∀ o, wg.frozen? ⟨w.heap.size, o, none⟩ = false := fun o => by simp [World.frozen?, hbX]
                  have f00 := f0 0
                  have f01 := f0 1
                  have f02 := f0 2
                  have f03 := f0 3
                  obtain ⟨W4, hW4⟩ : ∃ X, (((wg.setCell ⟨w.heap.size, 0, none⟩ (.int .i64 2)).setCell ⟨w.heap.size, 1, none⟩ (.string zn)).setCell ⟨w.heap.size, 2, none⟩ (.string ⟨#[]⟩)).setCell ⟨w.heap.size, 3, none⟩ (.int .i64 0) = X := ⟨_, rfl⟩
                  have HS := Lib.hid (set4 hbX hW4)
                  have HW := Lib.hid hW4
                  clear hres hbX f0 hW4
                  go_wp2
                  rw [HW.out]
                  obtain ⟨s1, s2, s3⟩ := HS.out
                  obtain ⟨d0, d1, d2, d3⟩ := heap4 s1
                  refine bodyPost_ret (v := .tuple #[.agg #[.int .i64 2, .string zn, .string ⟨#[]⟩, .int .i64 0], intV 0]) (by simp [results, Tryz.results70, go_sem, d0, d1, d2, d3]) rfl ⟨by rw [HRES.out, ← HZ.out.2.2.2.1, ← HZV.out]; try rfl, ?_⟩
                  have hA : Below w.heap.size w wk := by rw [← HWA.out]; exact alloc_below _ _
                  exact (below_then hA KG.out).trans ⟨by rw [← HW.out]; rfl, by rw [← HW.out]; rfl, by rw [← HW.out]; rfl, by omega, fun b hb => s2 b (by omega)⟩
                | false =>
                  have hres : r = ((0, [], []), 3) := by rw [← HR.out]; exact tagR_bad HTG.out (fun h => by have h2 := h.2; rw [HKD.out, good_openM _ _ HTG.out HEMB.out, HRT.out] at h2; exact absurd h2 (by simp))
                  have HRES := Lib.hid hres
                  have hbX := (KG.out.block w.heap.size (by have := HBS.out; omega)).trans HBX.out
                  have hlX : w.heap.size < wg.heap.size := (Array.getElem?_eq_some_iff.1 hbX).1
                  obtain ⟨k0, k1, k2, k3⟩ := heap4 hbX
                  have f0 : ∀ o, wg.frozen? ⟨w.heap.size, o, none⟩ = false := fun o => by simp [World.frozen?, hbX]
                  have f00 := f0 0
                  have f01 := f0 1
                  have f02 := f0 2
                  have f03 := f0 3
                  obtain ⟨W4, hW4⟩ : ∃ X, (((wg.setCell ⟨w.heap.size, 0, none⟩ (.int .i64 0)).setCell ⟨w.heap.size, 1, none⟩ (.string ⟨#[]⟩)).setCell ⟨w.heap.size, 2, none⟩ (.string ⟨#[]⟩)).setCell ⟨w.heap.size, 3, none⟩ (.int .i64 0) = X := ⟨_, rfl⟩
                  have HS := Lib.hid (set4 hbX hW4)
                  have HW := Lib.hid hW4
                  clear hres hbX f0 hW4
                  go_wp2
                  rw [HW.out]
                  obtain ⟨s1, s2, s3⟩ := HS.out
                  obtain ⟨d0, d1, d2, d3⟩ := heap4 s1
                  refine bodyPost_ret (v := .tuple #[.agg #[.int .i64 0, .string ⟨#[]⟩, .string ⟨#[]⟩, .int .i64 0], intV 3]) (by simp [results, Tryz.results70, go_sem, d0, d1, d2, d3]) rfl ⟨by rw [HRES.out]; try rfl, ?_⟩
                  have hA : Below w.heap.size w wk := by rw [← HWA.out]; exact alloc_below _ _
                  exact (below_then hA KG.out).trans ⟨by rw [← HW.out]; rfl, by rw [← HW.out]; rfl, by rw [← HW.out]; rfl, by omega, fun b hb => s2 b (by omega)⟩
              · have hq : ((baL (formF 2 (nmOf p) (vlOf p))).toList == z0.toList) = false := by
                  rw [beq_eq_false_iff_ne, ← HZ.out.1, baL_toList, baL_toList]; exact heq
                have hq2 : ((baL (formF 2 (nmOf p) (vlOf p))).toList != z0.toList) = true := by rw [bne, hq]; rfl
                have HEQ := Lib.hid heq
                clear heq
                have hres : r = ((0, [], []), 3) := by rw [← HR.out]; exact tagR_bad HTG.out (fun h => HEQ.out (by rw [HKD.out] at h; exact h.1))
                have HRES := Lib.hid hres
                have hbX := (KF.out.block w.heap.size (by have := HBS.out; omega)).trans HBX.out
                have hlX : w.heap.size < wf.heap.size := (Array.getElem?_eq_some_iff.1 hbX).1
                obtain ⟨k0, k1, k2, k3⟩ := heap4 hbX
                have f0 : ∀ o, wf.frozen? ⟨w.heap.size, o, none⟩ = false := fun o => by simp [World.frozen?, hbX]
                have f00 := f0 0
                have f01 := f0 1
                have f02 := f0 2
                have f03 := f0 3
                obtain ⟨W4, hW4⟩ : ∃ X, (((wf.setCell ⟨w.heap.size, 0, none⟩ (.int .i64 0)).setCell ⟨w.heap.size, 1, none⟩ (.string ⟨#[]⟩)).setCell ⟨w.heap.size, 2, none⟩ (.string ⟨#[]⟩)).setCell ⟨w.heap.size, 3, none⟩ (.int .i64 0) = X := ⟨_, rfl⟩
                have HS := Lib.hid (set4 hbX hW4)
                have HW := Lib.hid hW4
                clear hres hbX f0 hW4
                go_wp2
                rw [HW.out]
                obtain ⟨s1, s2, s3⟩ := HS.out
                obtain ⟨d0, d1, d2, d3⟩ := heap4 s1
                refine bodyPost_ret (v := .tuple #[.agg #[.int .i64 0, .string ⟨#[]⟩, .string ⟨#[]⟩, .int .i64 0], intV 3]) (by simp [results, Tryz.results70, go_sem, d0, d1, d2, d3]) rfl ⟨by rw [HRES.out]; try rfl, ?_⟩
                have hA : Below w.heap.size w wk := by rw [← HWA.out]; exact alloc_below _ _
                exact (below_then hA KF.out).trans ⟨by rw [← HW.out]; rfl, by rw [← HW.out]; rfl, by rw [← HW.out]; rfl, by omega, fun b hb => s2 b (by omega)⟩
        · have hz : zv = ⟨#[]⟩ := by rw [← HZV.out, e2]; rfl
          subst hz
          have E2 := Lib.hid e2
          have r32 : ((c.toNat : Int) != 32) = true := by rw [bne, q32]; rfl
          have r47 : ((c.toNat : Int) != 47) = false := by rw [bne, q47]; rfl
          clear e2
          go_wp2_with fail
          refine (HKN.out wk).mono ?_
          rintro e' w1 ⟨rfl, h1⟩
          have K1 := Lib.hid h1
          clear h1
          cases tg with
          | false =>
            have hres : r = ((0, [], []), 12) := by rw [← HR.out]; exact tagR_no HTG.out
            have HRES := Lib.hid hres
            have hbX := (K1.out.block w.heap.size (by have := HBS.out; omega)).trans HBX.out
            have hlX : w.heap.size < w1.heap.size := (Array.getElem?_eq_some_iff.1 hbX).1
            obtain ⟨k0, k1, k2, k3⟩ := heap4 hbX
            have f0 : ∀ o, w1.frozen? ⟨w.heap.size, o, none⟩ = false := fun o => by simp [World.frozen?, hbX]
            have f00 := f0 0
            have f01 := f0 1
            have f02 := f0 2
            have f03 := f0 3
            obtain ⟨W4, hW4⟩ : ∃ X, (((w1.setCell ⟨w.heap.size, 0, none⟩ (.int .i64 0)).setCell ⟨w.heap.size, 1, none⟩ (.string ⟨#[]⟩)).setCell ⟨w.heap.size, 2, none⟩ (.string ⟨#[]⟩)).setCell ⟨w.heap.size, 3, none⟩ (.int .i64 0) = X := ⟨_, rfl⟩
            have HS := Lib.hid (set4 hbX hW4)
            have HW := Lib.hid hW4
            clear hres hbX f0 hW4
            go_wp2
            rw [HW.out]
            obtain ⟨s1, s2, s3⟩ := HS.out
            obtain ⟨d0, d1, d2, d3⟩ := heap4 s1
            refine bodyPost_ret (v := .tuple #[.agg #[.int .i64 0, .string ⟨#[]⟩, .string ⟨#[]⟩, .int .i64 0], intV 12]) (by simp [results, Tryz.results70, go_sem, d0, d1, d2, d3]) rfl ⟨by rw [HRES.out]; try rfl, ?_⟩
            have hA : Below w.heap.size w wk := by rw [← HWA.out]; exact alloc_below _ _
            exact (below_then hA K1.out).trans ⟨by rw [← HW.out]; rfl, by rw [← HW.out]; rfl, by rw [← HW.out]; rfl, by omega, fun b hb => s2 b (by omega)⟩
          | true =>
            go_wp2_with fail
            refine (HEM.out _).mono ?_
            rintro e' wy ⟨rfl, rfl⟩
            cases em with
            | true =>
              go_wp2_with fail
              refine (HFO.out 4 _).mono ?_
              rintro e' wf ⟨rfl, hf⟩
              have hxx : wf.heap[w1.heap.size]? = some (.cells #[.int .i64 4, .string zn, .string ⟨#[]⟩, .int .i64 0] 52 (0, 0)) := (hf.block w1.heap.size (by simp)).trans (heap_alloc_new _ _)
              have KF := Lib.hid (below_then K1.out (below_then (alloc_below w1 _) hf))
              have HXX := Lib.hid hxx
              clear hf hxx
              have hkd : kdOf p = 4 := kd_empty HCL.out HEMB.out
              have HKD := Lib.hid hkd
              clear hkd
              by_cases heq : formF 4 (nmOf p) (vlOf p) = p
              · have hq : ((baL (formF 4 (nmOf p) (vlOf p))).toList == z0.toList) = true := by rw [heq, HZ.out.1, beq_self_eq_true]
                have hq2 : ((baL (formF 4 (nmOf p) (vlOf p))).toList != z0.toList) = false := by rw [bne, hq]; rfl
                have HEQ := Lib.hid heq
                clear heq
                go_wp2_with fail
                refine (HRI.out wf).mono ?_
                rintro e' wg ⟨rfl, hg⟩
                have KG := Lib.hid (below_then KF.out hg)
                have HXG := Lib.hid ((hg.block w1.heap.size (Array.getElem?_eq_some_iff.1 HXX.out).1).trans HXX.out)
                clear hg
                cases rt with
                | true =>
                  obtain ⟨x0, x1, x2, x3⟩ := heap4 HXG.out
                  have hres : r = ((4, nmOf p, vlOf p), 0) := by rw [← HR.out]; exact (by have := tagR_ok HTG.out (by rw [HKD.out]; exact ⟨HEQ.out, by rw [good_emptyM _ _ HEMB.out]; exact HRT.out⟩); rw [HKD.out] at this; exact this)
                  have HRES := Lib.hid hres
                  have hbX := (KG.out.block w.heap.size (by have := HBS.out; omega)).trans HBX.out
                  have hlX : w.heap.size < wg.heap.size := (Array.getElem?_eq_some_iff.1 hbX).1
                  obtain ⟨k0, k1, k2, k3⟩ := heap4 hbX
                  have f0 : ∀ o, wg.frozen? ⟨w.heap.size, o, none⟩ = false := fun o => by simp [World.frozen?, hbX]
                  have f00 := f0 0
                  have f01 := f0 1
                  have f02 := f0 2
                  have f03 := f0 3
                  obtain ⟨W4, hW4⟩ : ∃ X, (((wg.setCell ⟨w.heap.size, 0, none⟩ (.int .i64 4)).setCell ⟨w.heap.size, 1, none⟩ (.string zn)).setCell ⟨w.heap.size, 2, none⟩ (.string ⟨#[]⟩)).setCell ⟨w.heap.size, 3, none⟩ (.int .i64 0) = X := ⟨_, rfl⟩
                  have HS := Lib.hid (set4 hbX hW4)
                  have HW := Lib.hid hW4
                  clear hres hbX f0 hW4
                  go_wp2
                  rw [HW.out]
                  obtain ⟨s1, s2, s3⟩ := HS.out
                  obtain ⟨d0, d1, d2, d3⟩ := heap4 s1
                  refine bodyPost_ret (v := .tuple #[.agg #[.int .i64 4, .string zn, .string ⟨#[]⟩, .int .i64 0], intV 0]) (by simp [results, Tryz.results70, go_sem, d0, d1, d2, d3]) rfl ⟨by rw [HRES.out, ← HZ.out.2.2.2.1, ← HZV.out]; try rfl, ?_⟩
                  have hA : Below w.heap.size w wk := by rw [← HWA.out]; exact alloc_below _ _
                  exact (below_then hA KG.out).trans ⟨by rw [← HW.out]; rfl, by rw [← HW.out]; rfl, by rw [← HW.out]; rfl, by omega, fun b hb => s2 b (by omega)⟩
                | false =>
                  have hres : r = ((0, [], []), 3) := by rw [← HR.out]; exact tagR_bad HTG.out (fun h => by have h2 := h.2; rw [HKD.out, good_emptyM _ _ HEMB.out, HRT.out] at h2; exact absurd h2 (by simp))
                  have HRES := Lib.hid hres
                  have hbX := (KG.out.block w.heap.size (by have := HBS.out; omega)).trans HBX.out
                  have hlX : w.heap.size < wg.heap.size := (Array.getElem?_eq_some_iff.1 hbX).1
                  obtain ⟨k0, k1, k2, k3⟩ := heap4 hbX
                  have f0 : ∀ o, wg.frozen? ⟨w.heap.size, o, none⟩ = false := fun o => by simp [World.frozen?, hbX]
                  have f00 := f0 0
                  have f01 := f0 1
                  have f02 := f0 2
                  have f03 := f0 3
                  obtain ⟨W4, hW4⟩ : ∃ X, (((wg.setCell ⟨w.heap.size, 0, none⟩ (.int .i64 0)).setCell ⟨w.heap.size, 1, none⟩ (.string ⟨#[]⟩)).setCell ⟨w.heap.size, 2, none⟩ (.string ⟨#[]⟩)).setCell ⟨w.heap.size, 3, none⟩ (.int .i64 0) = X := ⟨_, rfl⟩
                  have HS := Lib.hid (set4 hbX hW4)
                  have HW := Lib.hid hW4
                  clear hres hbX f0 hW4
                  go_wp2
                  rw [HW.out]
                  obtain ⟨s1, s2, s3⟩ := HS.out
                  obtain ⟨d0, d1, d2, d3⟩ := heap4 s1
                  refine bodyPost_ret (v := .tuple #[.agg #[.int .i64 0, .string ⟨#[]⟩, .string ⟨#[]⟩, .int .i64 0], intV 3]) (by simp [results, Tryz.results70, go_sem, d0, d1, d2, d3]) rfl ⟨by rw [HRES.out]; try rfl, ?_⟩
                  have hA : Below w.heap.size w wk := by rw [← HWA.out]; exact alloc_below _ _
                  exact (below_then hA KG.out).trans ⟨by rw [← HW.out]; rfl, by rw [← HW.out]; rfl, by rw [← HW.out]; rfl, by omega, fun b hb => s2 b (by omega)⟩
              · have hq : ((baL (formF 4 (nmOf p) (vlOf p))).toList == z0.toList) = false := by
                  rw [beq_eq_false_iff_ne, ← HZ.out.1, baL_toList, baL_toList]; exact heq
                have hq2 : ((baL (formF 4 (nmOf p) (vlOf p))).toList != z0.toList) = true := by rw [bne, hq]; rfl
                have HEQ := Lib.hid heq
                clear heq
                have hres : r = ((0, [], []), 3) := by rw [← HR.out]; exact tagR_bad HTG.out (fun h => HEQ.out (by rw [HKD.out] at h; exact h.1))
                have HRES := Lib.hid hres
                have hbX := (KF.out.block w.heap.size (by have := HBS.out; omega)).trans HBX.out
                have hlX : w.heap.size < wf.heap.size := (Array.getElem?_eq_some_iff.1 hbX).1
                obtain ⟨k0, k1, k2, k3⟩ := heap4 hbX
                have f0 : ∀ o, wf.frozen? ⟨w.heap.size, o, none⟩ = false := fun o => by simp [World.frozen?, hbX]
                have f00 := f0 0
                have f01 := f0 1
                have f02 := f0 2
                have f03 := f0 3
                obtain ⟨W4, hW4⟩ : ∃ X, (((wf.setCell ⟨w.heap.size, 0, none⟩ (.int .i64 0)).setCell ⟨w.heap.size, 1, none⟩ (.string ⟨#[]⟩)).setCell ⟨w.heap.size, 2, none⟩ (.string ⟨#[]⟩)).setCell ⟨w.heap.size, 3, none⟩ (.int .i64 0) = X := ⟨_, rfl⟩
                have HS := Lib.hid (set4 hbX hW4)
                have HW := Lib.hid hW4
                clear hres hbX f0 hW4
                go_wp2
                rw [HW.out]
                obtain ⟨s1, s2, s3⟩ := HS.out
                obtain ⟨d0, d1, d2, d3⟩ := heap4 s1
                refine bodyPost_ret (v := .tuple #[.agg #[.int .i64 0, .string ⟨#[]⟩, .string ⟨#[]⟩, .int .i64 0], intV 3]) (by simp [results, Tryz.results70, go_sem, d0, d1, d2, d3]) rfl ⟨by rw [HRES.out]; try rfl, ?_⟩
                have hA : Below w.heap.size w wk := by rw [← HWA.out]; exact alloc_below _ _
                exact (below_then hA KF.out).trans ⟨by rw [← HW.out]; rfl, by rw [← HW.out]; rfl, by rw [← HW.out]; rfl, by omega, fun b hb => s2 b (by omega)⟩
            | false =>
              go_wp2_with fail
              refine (HFO.out 2 _).mono ?_
              rintro e' wf ⟨rfl, hf⟩
              have hxx : wf.heap[w1.heap.size]? = some (.cells #[.int .i64 2, .string zn, .string ⟨#[]⟩, .int .i64 0] 52 (0, 0)) := (hf.block w1.heap.size (by simp)).trans (heap_alloc_new _ _)
              have KF := Lib.hid (below_then K1.out (below_then (alloc_below w1 _) hf))
              have HXX := Lib.hid hxx
              clear hf hxx
              have hkd : kdOf p = 2 := kd_open HCL.out HEMB.out
              have HKD := Lib.hid hkd
              clear hkd
              by_cases heq : formF 2 (nmOf p) (vlOf p) = p
              · have hq : ((baL (formF 2 (nmOf p) (vlOf p))).toList == z0.toList) = true := by rw [heq, HZ.out.1, beq_self_eq_true]
                have hq2 : ((baL (formF 2 (nmOf p) (vlOf p))).toList != z0.toList) = false := by rw [bne, hq]; rfl
                have HEQ := Lib.hid heq
                clear heq
                go_wp2_with fail
                refine (HRI.out wf).mono ?_
                rintro e' wg ⟨rfl, hg⟩
                have KG := Lib.hid (below_then KF.out hg)
                have HXG := Lib.hid ((hg.block w1.heap.size (Array.getElem?_eq_some_iff.1 HXX.out).1).trans HXX.out)
                clear hg
                cases rt with
                | true =>
                  obtain ⟨x0, x1, x2, x3⟩ := heap4 HXG.out
                  have hres : r = ((2, nmOf p, vlOf p), 0) := by rw [← HR.out]; exact (by have := tagR_ok HTG.out (by rw [HKD.out]; exact ⟨HEQ.out, by rw [good_openM _ _ HTG.out HEMB.out]; exact HRT.out⟩); rw [HKD.out] at this; exact this)
                  have HRES := Lib.hid hres
                  have hbX := (KG.out.block w.heap.size (by have := HBS.out; omega)).trans HBX.out
                  have hlX : w.heap.size < wg.heap.size := (Array.getElem?_eq_some_iff.1 hbX).1
                  obtain ⟨k0, k1, k2, k3⟩ := heap4 hbX
                  have f0 : ∀ o, wg.frozen? ⟨w.heap.size, o, none⟩ = false := fun o => by simp [World.frozen?, hbX]
                  have f00 := f0 0
                  have f01 := f0 1
                  have f02 := f0 2
                  have f03 := f0 3
                  obtain ⟨W4, hW4⟩ : ∃ X, (((wg.setCell ⟨w.heap.size, 0, none⟩ (.int .i64 2)).setCell ⟨w.heap.size, 1, none⟩ (.string zn)).setCell ⟨w.heap.size, 2, none⟩ (.string ⟨#[]⟩)).setCell ⟨w.heap.size, 3, none⟩ (.int .i64 0) = X := ⟨_, rfl⟩
                  have HS := Lib.hid (set4 hbX hW4)
                  have HW := Lib.hid hW4
                  clear hres hbX f0 hW4
                  go_wp2
                  rw [HW.out]
                  obtain ⟨s1, s2, s3⟩ := HS.out
                  obtain ⟨d0, d1, d2, d3⟩ := heap4 s1
                  refine bodyPost_ret (v := .tuple #[.agg #[.int .i64 2, .string zn, .string ⟨#[]⟩, .int .i64 0], intV 0]) (by simp [results, Tryz.results70, go_sem, d0, d1, d2, d3]) rfl ⟨by rw [HRES.out, ← HZ.out.2.2.2.1, ← HZV.out]; try rfl, ?_⟩
                  have hA : Below w.heap.size w wk := by rw [← HWA.out]; exact alloc_below _ _
                  exact (below_then hA KG.out).trans ⟨by rw [← HW.out]; rfl, by rw [← HW.out]; rfl, by rw [← HW.out]; rfl, by omega, fun b hb => s2 b (by omega)⟩
                | false =>
                  have hres : r = ((0, [], []), 3) := by rw [← HR.out]; exact tagR_bad HTG.out (fun h => by have h2 := h.2; rw [HKD.out, good_openM _ _ HTG.out HEMB.out, HRT.out] at h2; exact absurd h2 (by simp))
                  have HRES := Lib.hid hres
                  have hbX := (KG.out.block w.heap.size (by have := HBS.out; omega)).trans HBX.out
                  have hlX : w.heap.size < wg.heap.size := (Array.getElem?_eq_some_iff.1 hbX).1
                  obtain ⟨k0, k1, k2, k3⟩ := heap4 hbX
                  have f0 : ∀ o, wg.frozen? ⟨w.heap.size, o, none⟩ = false := fun o => by simp [World.frozen?, hbX]
                  have f00 := f0 0
                  have f01 := f0 1
                  have f02 := f0 2
                  have f03 := f0 3
                  obtain ⟨W4, hW4⟩ : ∃ X, (((wg.setCell ⟨w.heap.size, 0, none⟩ (.int .i64 0)).setCell ⟨w.heap.size, 1, none⟩ (.string ⟨#[]⟩)).setCell ⟨w.heap.size, 2, none⟩ (.string ⟨#[]⟩)).setCell ⟨w.heap.size, 3, none⟩ (.int .i64 0) = X := ⟨_, rfl⟩
                  have HS := Lib.hid (set4 hbX hW4)
                  have HW := Lib.hid hW4
                  clear hres hbX f0 hW4
                  go_wp2
                  rw [HW.out]
                  obtain ⟨s1, s2, s3⟩ := HS.out
                  obtain ⟨d0, d1, d2, d3⟩ := heap4 s1
                  refine bodyPost_ret (v := .tuple #[.agg #[.int .i64 0, .string ⟨#[]⟩, .string ⟨#[]⟩, .int .i64 0], intV 3]) (by simp [results, Tryz.results70, go_sem, d0, d1, d2, d3]) rfl ⟨by rw [HRES.out]; try rfl, ?_⟩
                  have hA : Below w.heap.size w wk := by rw [← HWA.out]; exact alloc_below _ _
                  exact (below_then hA KG.out).trans ⟨by rw [← HW.out]; rfl, by rw [← HW.out]; rfl, by rw [← HW.out]; rfl, by omega, fun b hb => s2 b (by omega)⟩
              · have hq : ((baL (formF 2 (nmOf p) (vlOf p))).toList == z0.toList) = false := by
                  rw [beq_eq_false_iff_ne, ← HZ.out.1, baL_toList, baL_toList]; exact heq
                have hq2 : ((baL (formF 2 (nmOf p) (vlOf p))).toList != z0.toList) = true := by rw [bne, hq]; rfl
                have HEQ := Lib.hid heq
                clear heq
                have hres : r = ((0, [], []), 3) := by rw [← HR.out]; exact tagR_bad HTG.out (fun h => HEQ.out (by rw [HKD.out] at h; exact h.1))
                have HRES := Lib.hid hres
                have hbX := (KF.out.block w.heap.size (by have := HBS.out; omega)).trans HBX.out
                have hlX : w.heap.size < wf.heap.size := (Array.getElem?_eq_some_iff.1 hbX).1
                obtain ⟨k0, k1, k2, k3⟩ := heap4 hbX
                have f0 : ∀ o, wf.frozen? ⟨w.heap.size, o, none⟩ = false := fun o => by simp [World.frozen?, hbX]
                have f00 := f0 0
                have f01 := f0 1
                have f02 := f0 2
                have f03 := f0 3
                obtain ⟨W4, hW4⟩ : ∃ X, (((wf.setCell ⟨w.heap.size, 0, none⟩ (.int .i64 0)).setCell ⟨w.heap.size, 1, none⟩ (.string ⟨#[]⟩)).setCell ⟨w.heap.size, 2, none⟩ (.string ⟨#[]⟩)).setCell ⟨w.heap.size, 3, none⟩ (.int .i64 0) = X := ⟨_, rfl⟩
                have HS := Lib.hid (set4 hbX hW4)
                have HW := Lib.hid hW4
                clear hres hbX f0 hW4
                go_wp2
                rw [HW.out]
                obtain ⟨s1, s2, s3⟩ := HS.out
                obtain ⟨d0, d1, d2, d3⟩ := heap4 s1
                refine bodyPost_ret (v := .tuple #[.agg #[.int .i64 0, .string ⟨#[]⟩, .string ⟨#[]⟩, .int .i64 0], intV 3]) (by simp [results, Tryz.results70, go_sem, d0, d1, d2, d3]) rfl ⟨by rw [HRES.out]; try rfl, ?_⟩
                have hA : Below w.heap.size w wk := by rw [← HWA.out]; exact alloc_below _ _
                exact (below_then hA KF.out).trans ⟨by rw [← HW.out]; rfl, by rw [← HW.out]; rfl, by rw [← HW.out]; rfl, by omega, fun b hb => s2 b (by omega)⟩
        · have r32 : ((c.toNat : Int) != 32) = false := by rw [bne, q32]; rfl
          have HV2 := Lib.hid (HVAL.out e1 e2)
          clear e2
          go_wp2_with fail
          refine (HKN.out wk).mono ?_
          rintro e' w1 ⟨rfl, h1⟩
          have K1 := Lib.hid h1
          clear h1
          cases tg with
          | false =>
            have hres : r = ((0, [], []), 12) := by rw [← HR.out]; exact tagR_no HTG.out
            have HRES := Lib.hid hres
            have hbX := (K1.out.block w.heap.size (by have := HBS.out; omega)).trans HBX.out
            have hlX : w.heap.size < w1.heap.size := (Array.getElem?_eq_some_iff.1 hbX).1
            obtain ⟨k0, k1, k2, k3⟩ := heap4 hbX
            have f0 : ∀ o, w1.frozen? ⟨w.heap.size, o, none⟩ = false := fun o => by simp [World.frozen?, hbX]
            have f00 := f0 0
            have f01 := f0 1
            have f02 := f0 2
            have f03 := f0 3
            obtain ⟨W4, hW4⟩ : ∃ X, (((w1.setCell ⟨w.heap.size, 0, none⟩ (.int .i64 0)).setCell ⟨w.heap.size, 1, none⟩ (.string ⟨#[]⟩)).setCell ⟨w.heap.size, 2, none⟩ (.string ⟨#[]⟩)).setCell ⟨w.heap.size, 3, none⟩ (.int .i64 0) = X := ⟨_, rfl⟩
            have HS := Lib.hid (set4 hbX hW4)
            have HW := Lib.hid hW4
            clear hres hbX f0 hW4
            go_wp2
            rw [HW.out]
            obtain ⟨s1, s2, s3⟩ := HS.out
            obtain ⟨d0, d1, d2, d3⟩ := heap4 s1
            refine bodyPost_ret (v := .tuple #[.agg #[.int .i64 0, .string ⟨#[]⟩, .string ⟨#[]⟩, .int .i64 0], intV 12]) (by simp [results, Tryz.results70, go_sem, d0, d1, d2, d3]) rfl ⟨by rw [HRES.out]; try rfl, ?_⟩
            have hA : Below w.heap.size w wk := by rw [← HWA.out]; exact alloc_below _ _
            exact (below_then hA K1.out).trans ⟨by rw [← HW.out]; rfl, by rw [← HW.out]; rfl, by rw [← HW.out]; rfl, by omega, fun b hb => s2 b (by omega)⟩
          | true =>
            obtain ⟨hvj, hvend, hvx, hvn⟩ := HV2.out
            have HVJ := Lib.hid hvj
            have HVEND := Lib.hid hvend
            have hwn : IntKind.i64.wrap ((k : Int) + 1) = ((k + 1 : Nat) : Int) := by rw [show (k : Int) + 1 = ((k + 1 : Nat) : Int) by omega]; exact IntWalk.i64_in _ (by omega)
            obtain ⟨na, hna⟩ : ∃ n, k + 1 = n := ⟨_, rfl⟩
            rw [hna] at hwn hvx hvn
            clear hvj hvend
            go_wp2
            go_loopw [9] (fun iv wr => ∃ j : Nat, j ≤ vn ∧ iv = .int .i64 (na + j : Nat) ∧ wr = w1) (fun iv _ => na + vn - (intOf iv).toNat)
            case atStart => exact ⟨0, Nat.zero_le _, rfl, rfl⟩
            case round =>
              obtain ⟨j, hj, rfl, rfl⟩ := hrel
              obtain ⟨w1, rfl⟩ : ∃ x, x = wr := ⟨_, rfl⟩
              by_cases hlt2 : j < vn
              · obtain ⟨hjz, cj, hcj, qj⟩ := HVJ.out j hlt2
                have rj : ((cj.toNat : Int) != 47) = true := by rw [bne, qj]; rfl
                obtain ⟨mj, hmj⟩ : ∃ n, na + j = n := ⟨_, rfl⟩
                have hcj2 : ∃ h : mj < zt.size, zt[mj]'h = cj := by subst hmj; subst hna; exact ⟨hjz, hcj⟩
                obtain ⟨hjz2, hcj2⟩ := hcj2
                have hmt : mj < tl := by omega
                have HMJ := Lib.hid hmj
                rw [hmj]
                clear hcj hjz hmj
                go_wp2
                go_roundw
                case rel => exact ⟨j + 1, by omega, by have := HMJ.out; go_num, trivial⟩
                case measure => have := HMJ.out; simp [intOf]; omega
              · obtain rfl : j = vn := by omega
                obtain ⟨mj, hmj⟩ : ∃ n, na + j = n := ⟨_, rfl⟩
                rw [hmj] at hvx hvn ⊢
                have hnm : (na : Int) ≤ (mj : Int) := by omega
                have hends : (mj = tl) ∨ (mj < tl ∧ ∃ (h : mj < zt.size) (c : UInt8), zt[mj]'h = c ∧ ((c.toNat : Int) == 47) = true) := by
                  have := HVEND.out
                  subst hmj; subst hna; exact this
                clear hmj
                rcases hends with hme | ⟨hme, hmz, cm, hcm, qm⟩
                · have hmn : ¬ mj < tl := by omega
                  have HME := Lib.hid hme
                  clear hme
                  go_wp2_with fail
                  refine (HEM.out _).mono ?_
                  rintro e' wy ⟨rfl, rfl⟩
                  cases em with
                  | true =>
                    go_wp2_with fail
                    refine (HFO.out 4 _).mono ?_
                    rintro e' wf ⟨rfl, hf⟩
                    have hxx : wf.heap[w1.heap.size]? = some (.cells #[.int .i64 4, .string zn, .string zv, .int .i64 0] 52 (0, 0)) := (hf.block w1.heap.size (by simp)).trans (heap_alloc_new _ _)
                    have KF := Lib.hid (below_then K1.out (below_then (alloc_below w1 _) hf))
                    have HXX := Lib.hid hxx
                    clear hf hxx
                    have hkd : kdOf p = 4 := kd_empty HCL.out HEMB.out
                    have HKD := Lib.hid hkd
                    clear hkd
                    by_cases heq : formF 4 (nmOf p) (vlOf p) = p
                    · have hq : ((baL (formF 4 (nmOf p) (vlOf p))).toList == z0.toList) = true := by rw [heq, HZ.out.1, beq_self_eq_true]
                      have hq2 : ((baL (formF 4 (nmOf p) (vlOf p))).toList != z0.toList) = false := by rw [bne, hq]; rfl
                      have HEQ := Lib.hid heq
                      clear heq
                      go_wp2_with fail
                      refine (HRI.out wf).mono ?_
                      rintro e' wg ⟨rfl, hg⟩
                      have KG := Lib.hid (below_then KF.out hg)
                      have HXG := Lib.hid ((hg.block w1.heap.size (Array.getElem?_eq_some_iff.1 HXX.out).1).trans HXX.out)
                      clear hg
                      cases rt with
                      | true =>
                        obtain ⟨x0, x1, x2, x3⟩ := heap4 HXG.out
                        have hres : r = ((4, nmOf p, vlOf p), 0) := by rw [← HR.out]; exact (by have := tagR_ok HTG.out (by rw [HKD.out]; exact ⟨HEQ.out, by rw [good_emptyM _ _ HEMB.out]; exact HRT.out⟩); rw [HKD.out] at this; exact this)
                        have HRES := Lib.hid hres
                        have hbX := (KG.out.block w.heap.size (by have := HBS.out; omega)).trans HBX.out
                        have hlX : w.heap.size < wg.heap.size := (Array.getElem?_eq_some_iff.1 hbX).1
                        obtain ⟨k0, k1, k2, k3⟩ := heap4 hbX
                        have f0 : ∀ o, wg.frozen? ⟨w.heap.size, o, none⟩ = false := fun o => by simp [World.frozen?, hbX]
                        have f00 := f0 0
                        have f01 := f0 1
                        have f02 := f0 2
                        have f03 := f0 3
                        obtain ⟨W4, hW4⟩ : ∃ X, (((wg.setCell ⟨w.heap.size, 0, none⟩ (.int .i64 4)).setCell ⟨w.heap.size, 1, none⟩ (.string zn)).setCell ⟨w.heap.size, 2, none⟩ (.string zv)).setCell ⟨w.heap.size, 3, none⟩ (.int .i64 0) = X := ⟨_, rfl⟩
                        have HS := Lib.hid (set4 hbX hW4)
                        have HW := Lib.hid hW4
                        clear hres hbX f0 hW4
                        go_wp2
                        rw [HW.out]
                        obtain ⟨s1, s2, s3⟩ := HS.out
                        obtain ⟨d0, d1, d2, d3⟩ := heap4 s1
                        refine bodyPost_ret (v := .tuple #[.agg #[.int .i64 4, .string zn, .string zv, .int .i64 0], intV 0]) (by simp [results, Tryz.results70, go_sem, d0, d1, d2, d3]) rfl ⟨by rw [HRES.out, ← HZ.out.2.2.2.1, ← HZV.out]; try rfl, ?_⟩
                        have hA : Below w.heap.size w wk := by rw [← HWA.out]; exact alloc_below _ _
                        exact (below_then hA KG.out).trans ⟨by rw [← HW.out]; rfl, by rw [← HW.out]; rfl, by rw [← HW.out]; rfl, by omega, fun b hb => s2 b (by omega)⟩
                      | false =>
                        have hres : r = ((0, [], []), 3) := by rw [← HR.out]; exact tagR_bad HTG.out (fun h => by have h2 := h.2; rw [HKD.out, good_emptyM _ _ HEMB.out, HRT.out] at h2; exact absurd h2 (by simp))
                        have HRES := Lib.hid hres
                        have hbX := (KG.out.block w.heap.size (by have := HBS.out; omega)).trans HBX.out
                        have hlX : w.heap.size < wg.heap.size := (Array.getElem?_eq_some_iff.1 hbX).1
                        obtain ⟨k0, k1, k2, k3⟩ := heap4 hbX
                        have f0 : ∀ o, wg.frozen? ⟨w.heap.size, o, none⟩ = false := fun o => by simp [World.frozen?, hbX]
                        have f00 := f0 0
                        have f01 := f0 1
                        have f02 := f0 2
                        have f03 := f0 3
                        obtain ⟨W4, hW4⟩ : ∃ X, (((wg.setCell ⟨w.heap.size, 0, none⟩ (.int .i64 0)).setCell ⟨w.heap.size, 1, none⟩ (.string ⟨#[]⟩)).setCell ⟨w.heap.size, 2, none⟩ (.string ⟨#[]⟩)).setCell ⟨w.heap.size, 3, none⟩ (.int .i64 0) = X := ⟨_, rfl⟩
                        have HS := Lib.hid (set4 hbX hW4)
                        have HW := Lib.hid hW4
                        clear hres hbX f0 hW4
                        go_wp2
                        rw [HW.out]
                        obtain ⟨s1, s2, s3⟩ := HS.out
                        obtain ⟨d0, d1, d2, d3⟩ := heap4 s1
                        refine bodyPost_ret (v := .tuple #[.agg #[.int .i64 0, .string ⟨#[]⟩, .string ⟨#[]⟩, .int .i64 0], intV 3]) (by simp [results, Tryz.results70, go_sem, d0, d1, d2, d3]) rfl ⟨by rw [HRES.out]; try rfl, ?_⟩
                        have hA : Below w.heap.size w wk := by rw [← HWA.out]; exact alloc_below _ _
                        exact (below_then hA KG.out).trans ⟨by rw [← HW.out]; rfl, by rw [← HW.out]; rfl, by rw [← HW.out]; rfl, by omega, fun b hb => s2 b (by omega)⟩
                    · have hq : ((baL (formF 4 (nmOf p) (vlOf p))).toList == z0.toList) = false := by
                        rw [beq_eq_false_iff_ne, ← HZ.out.1, baL_toList, baL_toList]; exact heq
                      have hq2 : ((baL (formF 4 (nmOf p) (vlOf p))).toList != z0.toList) = true := by rw [bne, hq]; rfl
                      have HEQ := Lib.hid heq
                      clear heq
                      have hres : r = ((0, [], []), 3) := by rw [← HR.out]; exact tagR_bad HTG.out (fun h => HEQ.out (by rw [HKD.out] at h; exact h.1))
                      have HRES := Lib.hid hres
                      have hbX := (KF.out.block w.heap.size (by have := HBS.out; omega)).trans HBX.out
                      have hlX : w.heap.size < wf.heap.size := (Array.getElem?_eq_some_iff.1 hbX).1
                      obtain ⟨k0, k1, k2, k3⟩ := heap4 hbX
                      have f0 : ∀ o, wf.frozen? ⟨w.heap.size, o, none⟩ = false := fun o => by simp [World.frozen?, hbX]
                      have f00 := f0 0
                      have f01 := f0 1
                      have f02 := f0 2
                      have f03 := f0 3
                      obtain ⟨W4, hW4⟩ : ∃ X, (((wf.setCell ⟨w.heap.size, 0, none⟩ (.int .i64 0)).setCell ⟨w.heap.size, 1, none⟩ (.string ⟨#[]⟩)).setCell ⟨w.heap.size, 2, none⟩ (.string ⟨#[]⟩)).setCell ⟨w.heap.size, 3, none⟩ (.int .i64 0) = X := ⟨_, rfl⟩
                      have HS := Lib.hid (set4 hbX hW4)
                      have HW := Lib.hid hW4
                      clear hres hbX f0 hW4
                      go_wp2
                      rw [HW.out]
                      obtain ⟨s1, s2, s3⟩ := HS.out
                      obtain ⟨d0, d1, d2, d3⟩ := heap4 s1
                      refine bodyPost_ret (v := .tuple #[.agg #[.int .i64 0, .string ⟨#[]⟩, .string ⟨#[]⟩, .int .i64 0], intV 3]) (by simp [results, Tryz.results70, go_sem, d0, d1, d2, d3]) rfl ⟨by rw [HRES.out]; try rfl, ?_⟩
                      have hA : Below w.heap.size w wk := by rw [← HWA.out]; exact alloc_below _ _
                      exact (below_then hA KF.out).trans ⟨by rw [← HW.out]; rfl, by rw [← HW.out]; rfl, by rw [← HW.out]; rfl, by omega, fun b hb => s2 b (by omega)⟩
                  | false =>
                    go_wp2_with fail
                    refine (HFO.out 2 _).mono ?_
                    rintro e' wf ⟨rfl, hf⟩
                    have hxx : wf.heap[w1.heap.size]? = some (.cells #[.int .i64 2, .string zn, .string zv, .int .i64 0] 52 (0, 0)) := (hf.block w1.heap.size (by simp)).trans (heap_alloc_new _ _)
                    have KF := Lib.hid (below_then K1.out (below_then (alloc_below w1 _) hf))
                    have HXX := Lib.hid hxx
                    clear hf hxx
                    have hkd : kdOf p = 2 := kd_open HCL.out HEMB.out
                    have HKD := Lib.hid hkd
                    clear hkd
                    by_cases heq : formF 2 (nmOf p) (vlOf p) = p
                    · have hq : ((baL (formF 2 (nmOf p) (vlOf p))).toList == z0.toList) = true := by rw [heq, HZ.out.1, beq_self_eq_true]
                      have hq2 : ((baL (formF 2 (nmOf p) (vlOf p))).toList != z0.toList) = false := by rw [bne, hq]; rfl
                      have HEQ := Lib.hid heq
                      clear heq
                      go_wp2_with fail
                      refine (HRI.out wf).mono ?_
                      rintro e' wg ⟨rfl, hg⟩
                      have KG := Lib.hid (below_then KF.out hg)
                      have HXG := Lib.hid ((hg.block w1.heap.size (Array.getElem?_eq_some_iff.1 HXX.out).1).trans HXX.out)
                      clear hg
                      cases rt with
                      | true =>
                        obtain ⟨x0, x1, x2, x3⟩ := heap4 HXG.out
                        have hres : r = ((2, nmOf p, vlOf p), 0) := by rw [← HR.out]; exact (by have := tagR_ok HTG.out (by rw [HKD.out]; exact ⟨HEQ.out, by rw [good_openM _ _ HTG.out HEMB.out]; exact HRT.out⟩); rw [HKD.out] at this; exact this)
                        have HRES := Lib.hid hres
                        have hbX := (KG.out.block w.heap.size (by have := HBS.out; omega)).trans HBX.out
                        have hlX : w.heap.size < wg.heap.size := (Array.getElem?_eq_some_iff.1 hbX).1
                        obtain ⟨k0, k1, k2, k3⟩ := heap4 hbX
                        have f0 : ∀ o, wg.frozen? ⟨w.heap.size, o, none⟩ = false := fun o => by simp [World.frozen?, hbX]
                        have f00 := f0 0
                        have f01 := f0 1
                        have f02 := f0 2
                        have f03 := f0 3
                        obtain ⟨W4, hW4⟩ : ∃ X, (((wg.setCell ⟨w.heap.size, 0, none⟩ (.int .i64 2)).setCell ⟨w.heap.size, 1, none⟩ (.string zn)).setCell ⟨w.heap.size, 2, none⟩ (.string zv)).setCell ⟨w.heap.size, 3, none⟩ (.int .i64 0) = X := ⟨_, rfl⟩
                        have HS := Lib.hid (set4 hbX hW4)
                        have HW := Lib.hid hW4
                        clear hres hbX f0 hW4
                        go_wp2
                        rw [HW.out]
                        obtain ⟨s1, s2, s3⟩ := HS.out
                        obtain ⟨d0, d1, d2, d3⟩ := heap4 s1
                        refine bodyPost_ret (v := .tuple #[.agg #[.int .i64 2, .string zn, .string zv, .int .i64 0], intV 0]) (by simp [results, Tryz.results70, go_sem, d0, d1, d2, d3]) rfl ⟨by rw [HRES.out, ← HZ.out.2.2.2.1, ← HZV.out]; try rfl, ?_⟩
                        have hA : Below w.heap.size w wk := by rw [← HWA.out]; exact alloc_below _ _
                        exact (below_then hA KG.out).trans ⟨by rw [← HW.out]; rfl, by rw [← HW.out]; rfl, by rw [← HW.out]; rfl, by omega, fun b hb => s2 b (by omega)⟩
                      | false =>
                        have hres : r = ((0, [], []), 3) := by rw [← HR.out]; exact tagR_bad HTG.out (fun h => by have h2 := h.2; rw [HKD.out, good_openM _ _ HTG.out HEMB.out, HRT.out] at h2; exact absurd h2 (by simp))
                        have HRES := Lib.hid hres
                        have hbX := (KG.out.block w.heap.size (by have := HBS.out; omega)).trans HBX.out
                        have hlX : w.heap.size < wg.heap.size := (Array.getElem?_eq_some_iff.1 hbX).1
                        obtain ⟨k0, k1, k2, k3⟩ := heap4 hbX
                        have f0 : ∀ o, wg.frozen? ⟨w.heap.size, o, none⟩ = false := fun o => by simp [World.frozen?, hbX]
                        have f00 := f0 0
                        have f01 := f0 1
                        have f02 := f0 2
                        have f03 := f0 3
                        obtain ⟨W4, hW4⟩ : ∃ X, (((wg.setCell ⟨w.heap.size, 0, none⟩ (.int .i64 0)).setCell ⟨w.heap.size, 1, none⟩ (.string ⟨#[]⟩)).setCell ⟨w.heap.size, 2, none⟩ (.string ⟨#[]⟩)).setCell ⟨w.heap.size, 3, none⟩ (.int .i64 0) = X := ⟨_, rfl⟩
                        have HS := Lib.hid (set4 hbX hW4)
                        have HW := Lib.hid hW4
                        clear hres hbX f0 hW4
                        go_wp2
                        rw [HW.out]
                        obtain ⟨s1, s2, s3⟩ := HS.out
                        obtain ⟨d0, d1, d2, d3⟩ := heap4 s1
                        refine bodyPost_ret (v := .tuple #[.agg #[.int .i64 0, .string ⟨#[]⟩, .string ⟨#[]⟩, .int .i64 0], intV 3]) (by simp [results, Tryz.results70, go_sem, d0, d1, d2, d3]) rfl ⟨by rw [HRES.out]; try rfl, ?_⟩
                        have hA : Below w.heap.size w wk := by rw [← HWA.out]; exact alloc_below _ _
                        exact (below_then hA KG.out).trans ⟨by rw [← HW.out]; rfl, by rw [← HW.out]; rfl, by rw [← HW.out]; rfl, by omega, fun b hb => s2 b (by omega)⟩
                    · have hq : ((baL (formF 2 (nmOf p) (vlOf p))).toList == z0.toList) = false := by
                        rw [beq_eq_false_iff_ne, ← HZ.out.1, baL_toList, baL_toList]; exact heq
                      have hq2 : ((baL (formF 2 (nmOf p) (vlOf p))).toList != z0.toList) = true := by rw [bne, hq]; rfl
                      have HEQ := Lib.hid heq
                      clear heq
                      have hres : r = ((0, [], []), 3) := by rw [← HR.out]; exact tagR_bad HTG.out (fun h => HEQ.out (by rw [HKD.out] at h; exact h.1))
                      have HRES := Lib.hid hres
                      have hbX := (KF.out.block w.heap.size (by have := HBS.out; omega)).trans HBX.out
                      have hlX : w.heap.size < wf.heap.size := (Array.getElem?_eq_some_iff.1 hbX).1
                      obtain ⟨k0, k1, k2, k3⟩ := heap4 hbX
                      have f0 : ∀ o, wf.frozen? ⟨w.heap.size, o, none⟩ = false := fun o => by simp [World.frozen?, hbX]
                      have f00 := f0 0
                      have f01 := f0 1
                      have f02 := f0 2
                      have f03 := f0 3
                      obtain ⟨W4, hW4⟩ : ∃ X, (((wf.setCell ⟨w.heap.size, 0, none⟩ (.int .i64 0)).setCell ⟨w.heap.size, 1, none⟩ (.string ⟨#[]⟩)).setCell ⟨w.heap.size, 2, none⟩ (.string ⟨#[]⟩)).setCell ⟨w.heap.size, 3, none⟩ (.int .i64 0) = X := ⟨_, rfl⟩
                      have HS := Lib.hid (set4 hbX hW4)
                      have HW := Lib.hid hW4
                      clear hres hbX f0 hW4
                      go_wp2
                      rw [HW.out]
                      obtain ⟨s1, s2, s3⟩ := HS.out
                      obtain ⟨d0, d1, d2, d3⟩ := heap4 s1
                      refine bodyPost_ret (v := .tuple #[.agg #[.int .i64 0, .string ⟨#[]⟩, .string ⟨#[]⟩, .int .i64 0], intV 3]) (by simp [results, Tryz.results70, go_sem, d0, d1, d2, d3]) rfl ⟨by rw [HRES.out]; try rfl, ?_⟩
                      have hA : Below w.heap.size w wk := by rw [← HWA.out]; exact alloc_below _ _
                      exact (below_then hA KF.out).trans ⟨by rw [← HW.out]; rfl, by rw [← HW.out]; rfl, by rw [← HW.out]; rfl, by omega, fun b hb => s2 b (by omega)⟩
                · have rm : ((cm.toNat : Int) != 47) = false := by rw [bne, qm]; rfl
                  go_wp2_with fail
                  refine (HEM.out _).mono ?_
                  rintro e' wy ⟨rfl, rfl⟩
                  cases em with
                  | true =>
                    go_wp2_with fail
                    refine (HFO.out 4 _).mono ?_
                    rintro e' wf ⟨rfl, hf⟩
                    have hxx : wf.heap[w1.heap.size]? = some (.cells #[.int .i64 4, .string zn, .string zv, .int .i64 0] 52 (0, 0)) := (hf.block w1.heap.size (by simp)).trans (heap_alloc_new _ _)
                    have KF := Lib.hid (below_then K1.out (below_then (alloc_below w1 _) hf))
                    have HXX := Lib.hid hxx
                    clear hf hxx
                    have hkd : kdOf p = 4 := kd_empty HCL.out HEMB.out
                    have HKD := Lib.hid hkd
                    clear hkd
                    by_cases heq : formF 4 (nmOf p) (vlOf p) = p
                    · have hq : ((baL (formF 4 (nmOf p) (vlOf p))).toList == z0.toList) = true := by rw [heq, HZ.out.1, beq_self_eq_true]
                      have hq2 : ((baL (formF 4 (nmOf p) (vlOf p))).toList != z0.toList) = false := by rw [bne, hq]; rfl
                      have HEQ := Lib.hid heq
                      clear heq
                      go_wp2_with fail
                      refine (HRI.out wf).mono ?_
                      rintro e' wg ⟨rfl, hg⟩
                      have KG := Lib.hid (below_then KF.out hg)
                      have HXG := Lib.hid ((hg.block w1.heap.size (Array.getElem?_eq_some_iff.1 HXX.out).1).trans HXX.out)
                      clear hg
                      cases rt with
                      | true =>
                        obtain ⟨x0, x1, x2, x3⟩ := heap4 HXG.out
                        have hres : r = ((4, nmOf p, vlOf p), 0) := by rw [← HR.out]; exact (by have := tagR_ok HTG.out (by rw [HKD.out]; exact ⟨HEQ.out, by rw [good_emptyM _ _ HEMB.out]; exact HRT.out⟩); rw [HKD.out] at this; exact this)
                        have HRES := Lib.hid hres
                        have hbX := (KG.out.block w.heap.size (by have := HBS.out; omega)).trans HBX.out
                        have hlX : w.heap.size < wg.heap.size := (Array.getElem?_eq_some_iff.1 hbX).1
                        obtain ⟨k0, k1, k2, k3⟩ := heap4 hbX
                        have f0 : ∀ o, wg.frozen? ⟨w.heap.size, o, none⟩ = false := fun o => by simp [World.frozen?, hbX]
                        have f00 := f0 0
                        have f01 := f0 1
                        have f02 := f0 2
                        have f03 := f0 3
                        obtain ⟨W4, hW4⟩ : ∃ X, (((wg.setCell ⟨w.heap.size, 0, none⟩ (.int .i64 4)).setCell ⟨w.heap.size, 1, none⟩ (.string zn)).setCell ⟨w.heap.size, 2, none⟩ (.string zv)).setCell ⟨w.heap.size, 3, none⟩ (.int .i64 0) = X := ⟨_, rfl⟩
                        have HS := Lib.hid (set4 hbX hW4)
                        have HW := Lib.hid hW4
                        clear hres hbX f0 hW4
                        go_wp2
                        rw [HW.out]
                        obtain ⟨s1, s2, s3⟩ := HS.out
                        obtain ⟨d0, d1, d2, d3⟩ := heap4 s1
                        refine bodyPost_ret (v := .tuple #[.agg #[.int .i64 4, .string zn, .string zv, .int .i64 0], intV 0]) (by simp [results, Tryz.results70, go_sem, d0, d1, d2, d3]) rfl ⟨by rw [HRES.out, ← HZ.out.2.2.2.1, ← HZV.out]; try rfl, ?_⟩
                        have hA : Below w.heap.size w wk := by rw [← HWA.out]; exact alloc_below _ _
                        exact (below_then hA KG.out).trans ⟨by rw [← HW.out]; rfl, by rw [← HW.out]; rfl, by rw [← HW.out]; rfl, by omega, fun b hb => s2 b (by omega)⟩
                      | false =>
                        have hres : r = ((0, [], []), 3) := by rw [← HR.out]; exact tagR_bad HTG.out (fun h => by have h2 := h.2; rw [HKD.out, good_emptyM _ _ HEMB.out, HRT.out] at h2; exact absurd h2 (by simp))
                        have HRES := Lib.hid hres
                        have hbX := (KG.out.block w.heap.size (by have := HBS.out; omega)).trans HBX.out
                        have hlX : w.heap.size < wg.heap.size := (Array.getElem?_eq_some_iff.1 hbX).1
                        obtain ⟨k0, k1, k2, k3⟩ := heap4 hbX
                        have f0 : ∀ o, wg.frozen? ⟨w.heap.size, o, none⟩ = false := fun o => by simp [World.frozen?, hbX]
                        have f00 := f0 0
                        have f01 := f0 1
                        have f02 := f0 2
                        have f03 := f0 3
                        obtain ⟨W4, hW4⟩ : ∃ X, (((wg.setCell ⟨w.heap.size, 0, none⟩ (.int .i64 0)).setCell ⟨w.heap.size, 1, none⟩ (.string ⟨#[]⟩)).setCell ⟨w.heap.size, 2, none⟩ (.string ⟨#[]⟩)).setCell ⟨w.heap.size, 3, none⟩ (.int .i64 0) = X := ⟨_, rfl⟩
                        have HS := Lib.hid (set4 hbX hW4)
                        have HW := Lib.hid hW4
                        clear hres hbX f0 hW4
                        go_wp2
                        rw [HW.out]
                        obtain ⟨s1, s2, s3⟩ := HS.out
                        obtain ⟨d0, d1, d2, d3⟩ := heap4 s1
                        refine bodyPost_ret (v := .tuple #[.agg #[.int .i64 0, .string ⟨#[]⟩, .string ⟨#[]⟩, .int .i64 0], intV 3]) (by simp [results, Tryz.results70, go_sem, d0, d1, d2, d3]) rfl ⟨by rw [HRES.out]; try rfl, ?_⟩
                        have hA : Below w.heap.size w wk := by rw [← HWA.out]; exact alloc_below _ _
                        exact (below_then hA KG.out).trans ⟨by rw [← HW.out]; rfl, by rw [← HW.out]; rfl, by rw [← HW.out]; rfl, by omega, fun b hb => s2 b (by omega)⟩
                    · have hq : ((baL (formF 4 (nmOf p) (vlOf p))).toList == z0.toList) = false := by
                        rw [beq_eq_false_iff_ne, ← HZ.out.1, baL_toList, baL_toList]; exact heq
                      have hq2 : ((baL (formF 4 (nmOf p) (vlOf p))).toList != z0.toList) = true := by rw [bne, hq]; rfl
                      have HEQ := Lib.hid heq
                      clear heq
                      have hres : r = ((0, [], []), 3) := by rw [← HR.out]; exact tagR_bad HTG.out (fun h => HEQ.out (by rw [HKD.out] at h; exact h.1))
                      have HRES := Lib.hid hres
                      have hbX := (KF.out.block w.heap.size (by have := HBS.out; omega)).trans HBX.out
                      have hlX : w.heap.size < wf.heap.size := (Array.getElem?_eq_some_iff.1 hbX).1
                      obtain ⟨k0, k1, k2, k3⟩ := heap4 hbX
                      have f0 : ∀ o, wf.frozen? ⟨w.heap.size, o, none⟩ = false := fun o => by simp [World.frozen?, hbX]
                      have f00 := f0 0
                      have f01 := f0 1
                      have f02 := f0 2
                      have f03 := f0 3
                      obtain ⟨W4, hW4⟩ : ∃ X, (((wf.setCell ⟨w.heap.size, 0, none⟩ (.int .i64 0)).setCell ⟨w.heap.size, 1, none⟩ (.string ⟨#[]⟩)).setCell ⟨w.heap.size, 2, none⟩ (.string ⟨#[]⟩)).setCell ⟨w.heap.size, 3, none⟩ (.int .i64 0) = X := ⟨_, rfl⟩
                      have HS := Lib.hid (set4 hbX hW4)
                      have HW := Lib.hid hW4
                      clear hres hbX f0 hW4
                      go_wp2
                      rw [HW.out]
                      obtain ⟨s1, s2, s3⟩ := HS.out
                      obtain ⟨d0, d1, d2, d3⟩ := heap4 s1
                      refine bodyPost_ret (v := .tuple #[.agg #[.int .i64 0, .string ⟨#[]⟩, .string ⟨#[]⟩, .int .i64 0], intV 3]) (by simp [results, Tryz.results70, go_sem, d0, d1, d2, d3]) rfl ⟨by rw [HRES.out]; try rfl, ?_⟩
                      have hA : Below w.heap.size w wk := by rw [← HWA.out]; exact alloc_below _ _
                      exact (below_then hA KF.out).trans ⟨by rw [← HW.out]; rfl, by rw [← HW.out]; rfl, by rw [← HW.out]; rfl, by omega, fun b hb => s2 b (by omega)⟩
                  | false =>
                    go_wp2_with fail
                    refine (HFO.out 2 _).mono ?_
                    rintro e' wf ⟨rfl, hf⟩
                    have hxx : wf.heap[w1.heap.size]? = some (.cells #[.int .i64 2, .string zn, .string zv, .int .i64 0] 52 (0, 0)) := (hf.block w1.heap.size (by simp)).trans (heap_alloc_new _ _)
                    have KF := Lib.hid (below_then K1.out (below_then (alloc_below w1 _) hf))
                    have HXX := Lib.hid hxx
                    clear hf hxx
                    have hkd : kdOf p = 2 := kd_open HCL.out HEMB.out
                    have HKD := Lib.hid hkd
                    clear hkd
                    by_cases heq : formF 2 (nmOf p) (vlOf p) = p
                    · have hq : ((baL (formF 2 (nmOf p) (vlOf p))).toList == z0.toList) = true := by rw [heq, HZ.out.1, beq_self_eq_true]
                      have hq2 : ((baL (formF 2 (nmOf p) (vlOf p))).toList != z0.toList) = false := by rw [bne, hq]; rfl
                      have HEQ := Lib.hid heq
                      clear heq
                      go_wp2_with fail
                      refine (HRI.out wf).mono ?_
                      rintro e' wg ⟨rfl, hg⟩
                      have KG := Lib.hid (below_then KF.out hg)
                      have HXG := Lib.hid ((hg.block w1.heap.size (Array.getElem?_eq_some_iff.1 HXX.out).1).trans HXX.out)
                      clear hg
                      cases rt with
                      | true =>
                        obtain ⟨x0, x1, x2, x3⟩ := heap4 HXG.out
                        have hres : r = ((2, nmOf p, vlOf p), 0) := by rw [← HR.out]; exact (by have := tagR_ok HTG.out (by rw [HKD.out]; exact ⟨HEQ.out, by rw [good_openM _ _ HTG.out HEMB.out]; exact HRT.out⟩); rw [HKD.out] at this; exact this)
                        have HRES := Lib.hid hres
                        have hbX := (KG.out.block w.heap.size (by have := HBS.out; omega)).trans HBX.out
                        have hlX : w.heap.size < wg.heap.size := (Array.getElem?_eq_some_iff.1 hbX).1
                        obtain ⟨k0, k1, k2, k3⟩ := heap4 hbX
                        have f0 : ∀ o, wg.frozen? ⟨w.heap.size, o, none⟩ = false := fun o => by simp [World.frozen?, hbX]
                        have f00 := f0 0
                        have f01 := f0 1
                        have f02 := f0 2
                        have f03 := f0 3
                        obtain ⟨W4, hW4⟩ : ∃ X, (((wg.setCell ⟨w.heap.size, 0, none⟩ (.int .i64 2)).setCell ⟨w.heap.size, 1, none⟩ (.string zn)).setCell ⟨w.heap.size, 2, none⟩ (.string zv)).setCell ⟨w.heap.size, 3, none⟩ (.int .i64 0) = X := ⟨_, rfl⟩
                        have HS := Lib.hid (set4 hbX hW4)
                        have HW := Lib.hid hW4
                        clear hres hbX f0 hW4
                        go_wp2
                        rw [HW.out]
                        obtain ⟨s1, s2, s3⟩ := HS.out
                        obtain ⟨d0, d1, d2, d3⟩ := heap4 s1
                        refine bodyPost_ret (v := .tuple #[.agg #[.int .i64 2, .string zn, .string zv, .int .i64 0], intV 0]) (by simp [results, Tryz.results70, go_sem, d0, d1, d2, d3]) rfl ⟨by rw [HRES.out, ← HZ.out.2.2.2.1, ← HZV.out]; try rfl, ?_⟩
                        have hA : Below w.heap.size w wk := by rw [← HWA.out]; exact alloc_below _ _
                        exact (below_then hA KG.out).trans ⟨by rw [← HW.out]; rfl, by rw [← HW.out]; rfl, by rw [← HW.out]; rfl, by omega, fun b hb => s2 b (by omega)⟩
                      | false =>
                        have hres : r = ((0, [], []), 3) := by rw [← HR.out]; exact tagR_bad HTG.out (fun h => by have h2 := h.2; rw [HKD.out, good_openM _ _ HTG.out HEMB.out, HRT.out] at h2; exact absurd h2 (by simp))
                        have HRES := Lib.hid hres
                        have hbX := (KG.out.block w.heap.size (by have := HBS.out; omega)).trans HBX.out
                        have hlX : w.heap.size < wg.heap.size := (Array.getElem?_eq_some_iff.1 hbX).1
                        obtain ⟨k0, k1, k2, k3⟩ := heap4 hbX
                        have f0 : ∀ o, wg.frozen? ⟨w.heap.size, o, none⟩ = false := fun o => by simp [World.frozen?, hbX]
                        have f00 := f0 0
                        have f01 := f0 1
                        have f02 := f0 2
                        have f03 := f0 3
                        obtain ⟨W4, hW4⟩ : ∃ X, (((wg.setCell ⟨w.heap.size, 0, none⟩ (.int .i64 0)).setCell ⟨w.heap.size, 1, none⟩ (.string ⟨#[]⟩)).setCell ⟨w.heap.size, 2, none⟩ (.string ⟨#[]⟩)).setCell ⟨w.heap.size, 3, none⟩ (.int .i64 0) = X := ⟨_, rfl⟩
                        have HS := Lib.hid (set4 hbX hW4)
                        have HW := Lib.hid hW4
                        clear hres hbX f0 hW4
                        go_wp2
                        rw [HW.out]
                        obtain ⟨s1, s2, s3⟩ := HS.out
                        obtain ⟨d0, d1, d2, d3⟩ := heap4 s1
                        refine bodyPost_ret (v := .tuple #[.agg #[.int .i64 0, .string ⟨#[]⟩, .string ⟨#[]⟩, .int .i64 0], intV 3]) (by simp [results, Tryz.results70, go_sem, d0, d1, d2, d3]) rfl ⟨by rw [HRES.out]; try rfl, ?_⟩
                        have hA : Below w.heap.size w wk := by rw [← HWA.out]; exact alloc_below _ _
                        exact (below_then hA KG.out).trans ⟨by rw [← HW.out]; rfl, by rw [← HW.out]; rfl, by rw [← HW.out]; rfl, by omega, fun b hb => s2 b (by omega)⟩
                    · have hq : ((baL (formF 2 (nmOf p) (vlOf p))).toList == z0.toList) = false := by
                        rw [beq_eq_false_iff_ne, ← HZ.out.1, baL_toList, baL_toList]; exact heq
                      have hq2 : ((baL (formF 2 (nmOf p) (vlOf p))).toList != z0.toList) = true := by rw [bne, hq]; rfl
                      have HEQ := Lib.hid heq
                      clear heq
                      have hres : r = ((0, [], []), 3) := by rw [← HR.out]; exact tagR_bad HTG.out (fun h => HEQ.out (by rw [HKD.out] at h; exact h.1))
                      have HRES := Lib.hid hres
                      have hbX := (KF.out.block w.heap.size (by have := HBS.out; omega)).trans HBX.out
                      have hlX : w.heap.size < wf.heap.size := (Array.getElem?_eq_some_iff.1 hbX).1
                      obtain ⟨k0, k1, k2, k3⟩ := heap4 hbX
                      have f0 : ∀ o, wf.frozen? ⟨w.heap.size, o, none⟩ = false := fun o => by simp [World.frozen?, hbX]
                      have f00 := f0 0
                      have f01 := f0 1
                      have f02 := f0 2
                      have f03 := f0 3
                      obtain ⟨W4, hW4⟩ : ∃ X, (((wf.setCell ⟨w.heap.size, 0, none⟩ (.int .i64 0)).setCell ⟨w.heap.size, 1, none⟩ (.string ⟨#[]⟩)).setCell ⟨w.heap.size, 2, none⟩ (.string ⟨#[]⟩)).setCell ⟨w.heap.size, 3, none⟩ (.int .i64 0) = X := ⟨_, rfl⟩
                      have HS := Lib.hid (set4 hbX hW4)
                      have HW := Lib.hid hW4
                      clear hres hbX f0 hW4
                      go_wp2
                      rw [HW.out]
                      obtain ⟨s1, s2, s3⟩ := HS.out
                      obtain ⟨d0, d1, d2, d3⟩ := heap4 s1
                      refine bodyPost_ret (v := .tuple #[.agg #[.int .i64 0, .string ⟨#[]⟩, .string ⟨#[]⟩, .int .i64 0], intV 3]) (by simp [results, Tryz.results70, go_sem, d0, d1, d2, d3]) rfl ⟨by rw [HRES.out]; try rfl, ?_⟩
                      have hA : Below w.heap.size w wk := by rw [← HWA.out]; exact alloc_below _ _
                      exact (below_then hA KF.out).trans ⟨by rw [← HW.out]; rfl, by rw [← HW.out]; rfl, by rw [← HW.out]; rfl, by omega, fun b hb => s2 b (by omega)⟩
  · clear hcl
    go_enter Tryz.func70, Tryz.ntmps70
    go_wp2
    rw [HWA.out]
    go_loopw [6] (fun iv wr => ∃ k : Nat, k ≤ nl ∧ iv = .int .i64 k ∧ wr = wa) (fun iv _ => nl - (intOf iv).toNat)
    case atStart => exact ⟨0, Nat.zero_le _, rfl, rfl⟩
    case round =>
      obtain ⟨k, hk, rfl, rfl⟩ := hrel
      obtain ⟨wk, rfl⟩ : ∃ x, x = wr := ⟨_, rfl⟩
      by_cases hlt : k < nl
      · obtain ⟨hkz, c, hc, q32, q47⟩ := HTW.out k hlt
        have r32 : ((c.toNat : Int) != 32) = true := by rw [bne, q32]; rfl
        have r47 : ((c.toNat : Int) != 47) = true := by rw [bne, q47]; rfl
        have hkt : k < tl := by omega
        go_wp2
        go_roundw
        case rel => exact ⟨k + 1, by omega, by go_num, trivial⟩
        case measure => simp [intOf]; omega
      · obtain rfl : k = nl := by omega
        have hbx : wk.heap[w.heap.size]? = some (.cells #[.int .i64 0, .string ⟨#[]⟩, .string ⟨#[]⟩, .int .i64 0] 52 (0, 0)) := by rw [← HWA.out]; exact heap_alloc_new _ _
        have hbs : wk.heap.size = w.heap.size + 1 := by rw [← HWA.out]; simp
        have HBX := Lib.hid hbx
        have HBS := Lib.hid hbs
        have hk0 : (0 : Int) ≤ (k : Int) := by omega
        clear hbx hbs
        rcases HWAY.out with ⟨e1, e2⟩ | ⟨e1, e2, hkz, c, hc, q32, q47⟩ | ⟨e1, e2, hkz, c, hc, q32⟩
        · have hz : zv = ⟨#[]⟩ := by rw [← HZV.out, e2]; rfl
          subst hz
          have E2 := Lib.hid e2
          have hnt : ¬ k < tl := by omega
          have hnt2 : (k : Int) ≤ (tl : Int) := by omega
          have HE1 := Lib.hid e1
          clear e1 e2
          go_wp2_with fail
          refine (HKN.out wk).mono ?_
          rintro e' w1 ⟨rfl, h1⟩
          have K1 := Lib.hid h1
          clear h1
          cases tg with
          | false =>
            have hres : r = ((0, [], []), 12) := by rw [← HR.out]; exact tagR_no HTG.out
            have HRES := Lib.hid hres
            have hbX := (K1.out.block w.heap.size (by have := HBS.out; omega)).trans HBX.out
            have hlX : w.heap.size < w1.heap.size := (Array.getElem?_eq_some_iff.1 hbX).1
            obtain ⟨k0, k1, k2, k3⟩ := heap4 hbX
            have f0 : ∀ o, w1.frozen? ⟨w.heap.size, o, none⟩ = false := fun o => by simp [World.frozen?, hbX]
            have f00 := f0 0
            have f01 := f0 1
            have f02 := f0 2
            have f03 := f0 3
            obtain ⟨W4, hW4⟩ : ∃ X, (((w1.setCell ⟨w.heap.size, 0, none⟩ (.int .i64 0)).setCell ⟨w.heap.size, 1, none⟩ (.string ⟨#[]⟩)).setCell ⟨w.heap.size, 2, none⟩ (.string ⟨#[]⟩)).setCell ⟨w.heap.size, 3, none⟩ (.int .i64 0) = X := ⟨_, rfl⟩
            have HS := Lib.hid (set4 hbX hW4)
            have HW := Lib.hid hW4
            clear hres hbX f0 hW4
            go_wp2
            rw [HW.out]
            obtain ⟨s1, s2, s3⟩ := HS.out
            obtain ⟨d0, d1, d2, d3⟩ := heap4 s1
            refine bodyPost_ret (v := .tuple #[.agg #[.int .i64 0, .string ⟨#[]⟩, .string ⟨#[]⟩, .int .i64 0], intV 12]) (by simp [results, Tryz.results70, go_sem, d0, d1, d2, d3]) rfl ⟨by rw [HRES.out]; try rfl, ?_⟩
            have hA : Below w.heap.size w wk := by rw [← HWA.out]; exact alloc_below _ _
            exact (below_then hA K1.out).trans ⟨by rw [← HW.out]; rfl, by rw [← HW.out]; rfl, by rw [← HW.out]; rfl, by omega, fun b hb => s2 b (by omega)⟩
          | true =>
            go_wp2_with fail
            refine (HEM.out _).mono ?_
            rintro e' wy ⟨rfl, rfl⟩
            cases em with
            | true =>
              go_wp2_with fail
              refine (HFO.out 4 _).mono ?_
              rintro e' wf ⟨rfl, hf⟩
              have hxx : wf.heap[w1.heap.size]? = some (.cells #[.int .i64 4, .string zn, .string ⟨#[]⟩, .int .i64 0] 52 (0, 0)) := (hf.block w1.heap.size (by simp)).trans (heap_alloc_new _ _)
              have KF := Lib.hid (below_then K1.out (below_then (alloc_below w1 _) hf))
              have HXX := Lib.hid hxx
              clear hf hxx
              have hkd : kdOf p = 4 := kd_empty HCL.out HEMB.out
              have HKD := Lib.hid hkd
              clear hkd
              by_cases heq : formF 4 (nmOf p) (vlOf p) = p
              · have hq : ((baL (formF 4 (nmOf p) (vlOf p))).toList == z0.toList) = true := by rw [heq, HZ.out.1, beq_self_eq_true]
                have hq2 : ((baL (formF 4 (nmOf p) (vlOf p))).toList != z0.toList) = false := by rw [bne, hq]; rfl
                have HEQ := Lib.hid heq
                clear heq
                go_wp2_with fail
                refine (HRI.out wf).mono ?_
                rintro e' wg ⟨rfl, hg⟩
                have KG := Lib.hid (below_then KF.out hg)
                have HXG := Lib.hid ((hg.block w1.heap.size (Array.getElem?_eq_some_iff.1 HXX.out).1).trans HXX.out)
                clear hg
                cases rt with
                | true =>
                  obtain ⟨x0, x1, x2, x3⟩ := heap4 HXG.out
                  have hres : r = ((4, nmOf p, vlOf p), 0) := by rw [← HR.out]; exact (by have := tagR_ok HTG.out (by rw [HKD.out]; exact ⟨HEQ.out, by rw [good_emptyM _ _ HEMB.out]; exact HRT.out⟩); rw [HKD.out] at this; exact this)
                  have HRES := Lib.hid hres
                  have hbX := (KG.out.block w.heap.size (by have := HBS.out; omega)).trans HBX.out
                  have hlX : w.heap.size < wg.heap.size := (Array.getElem?_eq_some_iff.1 hbX).1
                  obtain ⟨k0, k1, k2, k3⟩ := heap4 hbX
                  have f0 : ∀ o, wg.frozen? ⟨w.heap.size, o, none⟩ = false := fun o => by simp [World.frozen?, hbX]
                  have f00 := f0 0
                  have f01 := f0 1
                  have f02 := f0 2
                  have f03 := f0 3
                  obtain ⟨W4, hW4⟩ : ∃ X, (((wg.setCell ⟨w.heap.size, 0, none⟩ (.int .i64 4)).setCell ⟨w.heap.size, 1, none⟩ (.string zn)).setCell ⟨w.heap.size, 2, none⟩ (.string ⟨#[]⟩)).setCell ⟨w.heap.size, 3, none⟩ (.int .i64 0) = X := ⟨_, rfl⟩
                  have HS := Lib.hid (set4 hbX hW4)
                  have HW := Lib.hid hW4
                  clear hres hbX f0 hW4
                  go_wp2
                  rw [HW.out]
                  obtain ⟨s1, s2, s3⟩ := HS.out
                  obtain ⟨d0, d1, d2, d3⟩ := heap4 s1
                  refine bodyPost_ret (v := .tuple #[.agg #[.int .i64 4, .string zn, .string ⟨#[]⟩, .int .i64 0], intV 0]) (by simp [results, Tryz.results70, go_sem, d0, d1, d2, d3]) rfl ⟨by rw [HRES.out, ← HZ.out.2.2.2.1, ← HZV.out]; try rfl, ?_⟩
                  have hA : Below w.heap.size w wk := by rw [← HWA.out]; exact alloc_below _ _
                  exact (below_then hA KG.out).trans ⟨by rw [← HW.out]; rfl, by rw [← HW.out]; rfl, by rw [← HW.out]; rfl, by omega, fun b hb => s2 b (by omega)⟩
                | false =>
                  have hres : r = ((0, [], []), 3) := by rw [← HR.out]; exact tagR_bad HTG.out (fun h => by have h2 := h.2; rw [HKD.out, good_emptyM _ _ HEMB.out, HRT.out] at h2; exact absurd h2 (by simp))
                  have HRES := Lib.hid hres
                  have hbX := (KG.out.block w.heap.size (by have := HBS.out; omega)).trans HBX.out
                  have hlX : w.heap.size < wg.heap.size := (Array.getElem?_eq_some_iff.1 hbX).1
                  obtain ⟨k0, k1, k2, k3⟩ := heap4 hbX
                  have f0 : ∀ o, wg.frozen? ⟨w.heap.size, o, none⟩ = false := fun o => by simp [World.frozen?, hbX]
                  have f00 := f0 0
                  have f01 := f0 1
                  have f02 := f0 2
                  have f03 := f0 3
                  obtain ⟨W4, hW4⟩ : ∃ X, (((wg.setCell ⟨w.heap.size, 0, none⟩ (.int .i64 0)).setCell ⟨w.heap.size, 1, none⟩ (.string ⟨#[]⟩)).setCell ⟨w.heap.size, 2, none⟩ (.string ⟨#[]⟩)).setCell ⟨w.heap.size, 3, none⟩ (.int .i64 0) = X := ⟨_, rfl⟩
                  have HS := Lib.hid (set4 hbX hW4)
                  have HW := Lib.hid hW4
                  clear hres hbX f0 hW4
                  go_wp2
                  rw [HW.out]
                  obtain ⟨s1, s2, s3⟩ := HS.out
                  obtain ⟨d0, d1, d2, d3⟩ := heap4 s1
                  refine bodyPost_ret (v := .tuple #[.agg #[.int .i64 0, .string ⟨#[]⟩, .string ⟨#[]⟩, .int .i64 0], intV 3]) (by simp [results, Tryz.results70, go_sem, d0, d1, d2, d3]) rfl ⟨by rw [HRES.out]; try rfl, ?_⟩
                  have hA : Below w.heap.size w wk := by rw [← HWA.out]; exact alloc_below _ _
                  exact (below_then hA KG.out).trans ⟨by rw [← HW.out]; rfl, by rw [← HW.out]; rfl, by rw [← HW.out]; rfl, by omega, fun b hb => s2 b (by omega)⟩
              · have hq : ((baL (formF 4 (nmOf p) (vlOf p))).toList == z0.toList) = false := by
                  rw [beq_eq_false_iff_ne, ← HZ.out.1, baL_toList, baL_toList]; exact heq
                have hq2 : ((baL (formF 4 (nmOf p) (vlOf p))).toList != z0.toList) = true := by rw [bne, hq]; rfl
                have HEQ := Lib.hid heq
                clear heq
                have hres : r = ((0, [], []), 3) := by rw [← HR.out]; exact tagR_bad HTG.out (fun h => HEQ.out (by rw [HKD.out] at h; exact h.1))
                have HRES := Lib.hid hres
                have hbX := (KF.out.block w.heap.size (by have := HBS.out; omega)).trans HBX.out
                have hlX : w.heap.size < wf.heap.size := (Array.getElem?_eq_some_iff.1 hbX).1
                obtain ⟨k0, k1, k2, k3⟩ := heap4 hbX
                have f0 : ∀ o, wf.frozen? ⟨w.heap.size, o, none⟩ = false := fun o => by simp [World.frozen?, hbX]
                have f00 := f0 0
                have f01 := f0 1
                have f02 := f0 2
                have f03 := f0 3
                obtain ⟨W4, hW4⟩ : ∃ X, (((wf.setCell ⟨w.heap.size, 0, none⟩ (.int .i64 0)).setCell ⟨w.heap.size, 1, none⟩ (.string ⟨#[]⟩)).setCell ⟨w.heap.size, 2, none⟩ (.string ⟨#[]⟩)).setCell ⟨w.heap.size, 3, none⟩ (.int .i64 0) = X := ⟨_, rfl⟩
                have HS := Lib.hid (set4 hbX hW4)
                have HW := Lib.hid hW4
                clear hres hbX f0 hW4
                go_wp2
                rw [HW.out]
                obtain ⟨s1, s2, s3⟩ := HS.out
                obtain ⟨d0, d1, d2, d3⟩ := heap4 s1
                refine bodyPost_ret (v := .tuple #[.agg #[.int .i64 0, .string ⟨#[]⟩, .string ⟨#[]⟩, .int .i64 0], intV 3]) (by simp [results, Tryz.results70, go_sem, d0, d1, d2, d3]) rfl ⟨by rw [HRES.out]; try rfl, ?_⟩
                have hA : Below w.heap.size w wk := by rw [← HWA.out]; exact alloc_below _ _
                exact (below_then hA KF.out).trans ⟨by rw [← HW.out]; rfl, by rw [← HW.out]; rfl, by rw [← HW.out]; rfl, by omega, fun b hb => s2 b (by omega)⟩
            | false =>
              go_wp2_with fail
              refine (HFO.out 2 _).mono ?_
              rintro e' wf ⟨rfl, hf⟩
              have hxx : wf.heap[w1.heap.size]? = some (.cells #[.int .i64 2, .string zn, .string ⟨#[]⟩, .int .i64 0] 52 (0, 0)) := (hf.block w1.heap.size (by simp)).trans (heap_alloc_new _ _)
              have KF := Lib.hid (below_then K1.out (below_then (alloc_below w1 _) hf))
              have HXX := Lib.hid hxx
              clear hf hxx
              have hkd : kdOf p = 2 := kd_open HCL.out HEMB.out
              have HKD := Lib.hid hkd
              clear hkd
              by_cases heq : formF 2 (nmOf p) (vlOf p) = p
              · have hq : ((baL (formF 2 (nmOf p) (vlOf p))).toList == z0.toList) = true := by rw [heq, HZ.out.1, beq_self_eq_true]
                have hq2 : ((baL (formF 2 (nmOf p) (vlOf p))).toList != z0.toList) = false := by rw [bne, hq]; rfl
                have HEQ := Lib.hid heq
                clear heq
                go_wp2_with fail
                refine (HRI.out wf).mono ?_
                rintro e' wg ⟨rfl, hg⟩
                have KG := Lib.hid (below_then KF.out hg)
                have HXG := Lib.hid ((hg.block w1.heap.size (Array.getElem?_eq_some_iff.1 HXX.out).1).trans HXX.out)
                clear hg
                cases rt with
                | true =>
                  obtain ⟨x0, x1, x2, x3⟩ := heap4 HXG.out
                  have hres : r = ((2, nmOf p, vlOf p), 0) := by rw [← HR.out]; exact (by have := tagR_ok HTG.out (by rw [HKD.out]; exact ⟨HEQ.out, by rw [good_openM _ _ HTG.out HEMB.out]; exact HRT.out⟩); rw [HKD.out] at this; exact this)
                  have HRES := Lib.hid hres
                  have hbX := (KG.out.block w.heap.size (by have := HBS.out; omega)).trans HBX.out
                  have hlX : w.heap.size < wg.heap.size := (Array.getElem?_eq_some_iff.1 hbX).1
                  obtain ⟨k0, k1, k2, k3⟩ := heap4 hbX
                  have f0 : ∀ o, wg.frozen? ⟨w.heap.size, o, none⟩ = false := fun o => by simp [World.frozen?, hbX]
                  have f00 := f0 0
                  have f01 := f0 1
                  have f02 := f0 2
                  have f03 := f0 3
                  obtain ⟨W4, hW4⟩ : ∃ X, (((wg.setCell ⟨w.heap.size, 0, none⟩ (.int .i64 2)).setCell ⟨w.heap.size, 1, none⟩ (.string zn)).setCell ⟨w.heap.size, 2, none⟩ (.string ⟨#[]⟩)).setCell ⟨w.heap.size, 3, none⟩ (.int .i64 0) = X := ⟨_, rfl⟩
                  have HS := Lib.hid (set4 hbX hW4)
                  have HW := Lib.hid hW4
                  clear hres hbX f0 hW4
                  go_wp2
                  rw [HW.out]
                  obtain ⟨s1, s2, s3⟩ := HS.out
                  obtain ⟨d0, d1, d2, d3⟩ := heap4 s1
                  refine bodyPost_ret (v := .tuple #[.agg #[.int .i64 2, .string zn, .string ⟨#[]⟩, .int .i64 0], intV 0]) (by simp [results, Tryz.results70, go_sem, d0, d1, d2, d3]) rfl ⟨by rw [HRES.out, ← HZ.out.2.2.2.1, ← HZV.out]; try rfl, ?_⟩
                  have hA : Below w.heap.size w wk := by rw [← HWA.out]; exact alloc_below _ _
                  exact (below_then hA KG.out).trans ⟨by rw [← HW.out]; rfl, by rw [← HW.out]; rfl, by rw [← HW.out]; rfl, by omega, fun b hb => s2 b (by omega)⟩
                | false =>
                  have hres : r = ((0, [], []), 3) := by rw [← HR.out]; exact tagR_bad HTG.out (fun h => by have h2 := h.2; rw [HKD.out, good_openM _ _ HTG.out HEMB.out, HRT.out] at h2; exact absurd h2 (by simp))
                  have HRES := Lib.hid hres
                  have hbX := (KG.out.block w.heap.size (by have := HBS.out; omega)).trans HBX.out
                  have hlX : w.heap.size < wg.heap.size := (Array.getElem?_eq_some_iff.1 hbX).1
                  obtain ⟨k0, k1, k2, k3⟩ := heap4 hbX
                  have f0 : ∀ o, wg.frozen? ⟨w.heap.size, o, none⟩ = false := fun o => by simp [World.frozen?, hbX]
                  have f00 := f0 0
                  have f01 := f0 1
                  have f02 := f0 2
                  have f03 := f0 3
                  obtain ⟨W4, hW4⟩ : ∃ X, (((wg.setCell ⟨w.heap.size, 0, none⟩ (.int .i64 0)).setCell ⟨w.heap.size, 1, none⟩ (.string ⟨#[]⟩)).setCell ⟨w.heap.size, 2, none⟩ (.string ⟨#[]⟩)).setCell ⟨w.heap.size, 3, none⟩ (.int .i64 0) = X := ⟨_, rfl⟩
                  have HS := Lib.hid (set4 hbX hW4)
                  have HW := Lib.hid hW4
                  clear hres hbX f0 hW4
                  go_wp2
                  rw [HW.out]
                  obtain ⟨s1, s2, s3⟩ := HS.out
                  obtain ⟨d0, d1, d2, d3⟩ := heap4 s1
                  refine bodyPost_ret (v := .tuple #[.agg #[.int .i64 0, .string ⟨#[]⟩, .string ⟨#[]⟩, .int .i64 0], intV 3]) (by simp [results, Tryz.results70, go_sem, d0, d1, d2, d3]) rfl ⟨by rw [HRES.out]; try rfl, ?_⟩
                  have hA : Below w.heap.size w wk := by rw [← HWA.out]; exact alloc_below _ _
                  exact (below_then hA KG.out).trans ⟨by rw [← HW.out]; rfl, by rw [← HW.out]; rfl, by rw [← HW.out]; rfl, by omega, fun b hb => s2 b (by omega)⟩
              · have hq : ((baL (formF 2 (nmOf p) (vlOf p))).toList == z0.toList) = false := by
                  rw [beq_eq_false_iff_ne, ← HZ.out.1, baL_toList, baL_toList]; exact heq
                have hq2 : ((baL (formF 2 (nmOf p) (vlOf p))).toList != z0.toList) = true := by rw [bne, hq]; rfl
                have HEQ := Lib.hid heq
                clear heq
                have hres : r = ((0, [], []), 3) := by rw [← HR.out]; exact tagR_bad HTG.out (fun h => HEQ.out (by rw [HKD.out] at h; exact h.1))
                have HRES := Lib.hid hres
                have hbX := (KF.out.block w.heap.size (by have := HBS.out; omega)).trans HBX.out
                have hlX : w.heap.size < wf.heap.size := (Array.getElem?_eq_some_iff.1 hbX).1
                obtain ⟨k0, k1, k2, k3⟩ := heap4 hbX
                have f0 : ∀ o, wf.frozen? ⟨w.heap.size, o, none⟩ = false := fun o => by simp [World.frozen?, hbX]
                have f00 := f0 0
                have f01 := f0 1
                have f02 := f0 2
                have f03 := f0 3
                obtain ⟨W4, hW4⟩ : ∃ X, (((wf.setCell ⟨w.heap.size, 0, none⟩ (.int .i64 0)).setCell ⟨w.heap.size, 1, none⟩ (.string ⟨#[]⟩)).setCell ⟨w.heap.size, 2, none⟩ (.string ⟨#[]⟩)).setCell ⟨w.heap.size, 3, none⟩ (.int .i64 0) = X := ⟨_, rfl⟩
                have HS := Lib.hid (set4 hbX hW4)
                have HW := Lib.hid hW4
                clear hres hbX f0 hW4
                go_wp2
                rw [HW.out]
                obtain ⟨s1, s2, s3⟩ := HS.out
                obtain ⟨d0, d1, d2, d3⟩ := heap4 s1
                refine bodyPost_ret (v := .tuple #[.agg #[.int .i64 0, .string ⟨#[]⟩, .string ⟨#[]⟩, .int .i64 0], intV 3]) (by simp [results, Tryz.results70, go_sem, d0, d1, d2, d3]) rfl ⟨by rw [HRES.out]; try rfl, ?_⟩
                have hA : Below w.heap.size w wk := by rw [← HWA.out]; exact alloc_below _ _
                exact (below_then hA KF.out).trans ⟨by rw [← HW.out]; rfl, by rw [← HW.out]; rfl, by rw [← HW.out]; rfl, by omega, fun b hb => s2 b (by omega)⟩
        · omega
        · omega
end Go.Proofs.YtmfcepfagbkceaaGreatDoor
