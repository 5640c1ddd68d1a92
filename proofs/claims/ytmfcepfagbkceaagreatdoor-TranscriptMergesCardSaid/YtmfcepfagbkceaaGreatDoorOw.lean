/- Stage 10 (transcript): TrRefF TrRefG, put together by merge10.py. -/
import Derived.Test.YtmfcepfagbkceaaGreatDoorOv
import Derived.Test.YtmfcepfagbkceaaGreatDoorOo
import Derived.Test.YtmfcepfagbkceaaGreatDoorOp
import Derived.Test.YtmfcepfagbkceaaGreatDoorOb
namespace Go.Proofs.YtmfcepfagbkceaaGreatDoor
set_option linter.unusedSimpArgs false
set_option linter.unusedVariables false
set_option maxRecDepth 100000
open Go.RowKit Go.Shelf Go.Deep
set_option maxHeartbeats 4000000 in
theorem check10_any (l : List Nd) (r : Int) (hr : ckR l = r) (v : Value) (P : Nat → Prop) (w : World) (hv : VsAt w P v l) :
    Calls Tryz.prog 25 #[v] w fun e w' => e = .returned (intV r) ∧ Below w.heap.size w w' := by
  have HV := Lib.hid hv
  obtain ⟨a, c, rfl, hvi⟩ := id hv
  clear hvi
  by_cases hok : tots l ≤ 4096 ∧ deps l ≤ 16
  · have HS := Lib.hid (size_any (tots l) l (Nat.le_refl _) 16 4096 (((tots l : Nat) : Int), ((deps l : Nat) : Int), true) (by unfold sizeR; rw [if_pos hok]) (by omega) (by omega) _ P w hv)
    obtain ⟨k, hk⟩ : ∃ k, allL false false l = k := ⟨_, rfl⟩
    have HA := Lib.hid (fun W (hW : VsAt W P (.slice a l.length c) l) => all_any (tots l) l (Nat.le_refl _) (by omega) false k hk _ P W hW)
    have hr2 : r = if k ≠ 0 then k else if 65536 < (outL l).length then 4 else 0 := by
      rw [← hr, ← hk]
      unfold ckR
      rw [if_pos hok]
    by_cases hk0 : k = 0
    · subst hk0
      obtain ⟨s, hs⟩ : ∃ s, outL l = s := ⟨_, rfl⟩
      have hbig := out_big hk
      have HP := Lib.hid (fun W (hW : VsAt W P (.slice a l.length c) l) => refPrint10_any (tots l) l (Nat.le_refl _) (by omega) false false hk s hs _ P W hW)
      rw [hs] at hr2 hbig
      have z0 : (baL s).size = s.length := baL_size s
      rw [if_neg (by simp)] at hr2
      have HZ := Lib.hid hr2
      by_cases h1 : 65536 < s.length
      · have q1 : decide ((65536 : Int) < (s.length : Int)) = true := decide_eq_true (by omega)
        have HR := Lib.hid (show r = 4 by rw [HZ.out, if_pos h1])
        clear hv hok hr hr2 hk hs hbig HZ
        go_enter Tryz.func25, Tryz.ntmps25
        go_wp2_with fail
        refine HS.out.mono ?_
        rintro e w1 ⟨rfl, h1⟩
        have HB1 := Lib.hid h1
        have HV1 := Lib.hid (HV.out.below h1)
        clear h1
        go_wp2_with fail
        refine (HA.out _ HV1.out).mono ?_
        rintro e w2 ⟨rfl, h2⟩
        have HB2 := Lib.hid (below_then HB1.out h2)
        have HV2 := Lib.hid (HV1.out.below h2)
        clear h2
        go_wp2_with fail
        refine (HP.out _ HV2.out).mono ?_
        rintro e w3 ⟨rfl, h3⟩
        have HB3 := Lib.hid (below_then HB2.out h3)
        clear h3
        go_wp2
        go_ret
        exact ⟨by rw [HR.out]; rfl, HB3.out⟩
      · have q1 : decide ((65536 : Int) < (s.length : Int)) = false := decide_eq_false (by omega)
        have HR := Lib.hid (show r = 0 by rw [HZ.out, if_neg h1])
        clear hv hok hr hr2 hk hs hbig HZ
        go_enter Tryz.func25, Tryz.ntmps25
        go_wp2_with fail
        refine HS.out.mono ?_
        rintro e w1 ⟨rfl, h1⟩
        have HB1 := Lib.hid h1
        have HV1 := Lib.hid (HV.out.below h1)
        clear h1
        go_wp2_with fail
        refine (HA.out _ HV1.out).mono ?_
        rintro e w2 ⟨rfl, h2⟩
        have HB2 := Lib.hid (below_then HB1.out h2)
        have HV2 := Lib.hid (HV1.out.below h2)
        clear h2
        go_wp2_with fail
        refine (HP.out _ HV2.out).mono ?_
        rintro e w3 ⟨rfl, h3⟩
        have HB3 := Lib.hid (below_then HB2.out h3)
        clear h3
        go_wp2
        go_ret
        exact ⟨by rw [HR.out]; rfl, HB3.out⟩
    · have q1 : (k != 0) = true := by simpa using hk0
      have HR := Lib.hid (show r = k by rw [hr2, if_pos hk0])
      clear hv hok hr hr2 hk hk0
      go_enter Tryz.func25, Tryz.ntmps25
      go_wp2_with fail
      refine HS.out.mono ?_
      rintro e w1 ⟨rfl, h1⟩
      have HB1 := Lib.hid h1
      have HV1 := Lib.hid (HV.out.below h1)
      clear h1
      go_wp2_with fail
      refine (HA.out _ HV1.out).mono ?_
      rintro e w2 ⟨rfl, h2⟩
      have HB2 := Lib.hid (below_then HB1.out h2)
      clear h2
      go_wp2
      go_ret
      exact ⟨by rw [HR.out]; rfl, HB2.out⟩
  · have HS := Lib.hid (size_any (tots l) l (Nat.le_refl _) 16 4096 (0, 0, false) (by unfold sizeR; rw [if_neg hok]) (by omega) (by omega) _ P w hv)
    have HR := Lib.hid (show r = 4 by rw [← hr]; unfold ckR; rw [if_neg hok])
    clear hv hok hr
    go_enter Tryz.func25, Tryz.ntmps25
    go_wp2_with fail
    refine HS.out.mono ?_
    rintro e w1 ⟨rfl, h1⟩
    have HB1 := Lib.hid h1
    clear h1
    go_wp2
    go_ret
    exact ⟨by rw [HR.out]; rfl, HB1.out⟩
set_option maxHeartbeats 4000000 in
theorem print10_any (l : List Nd) (d : Bs) (e : Int) (hr : printT l = (d, e)) (v : Value) (P : Nat → Prop) (w : World) (hv : VsAt w P v l) :
    Calls Tryz.prog 17 #[v] w fun en w' => en = .returned (.tuple #[sV d, intV e]) ∧ Below w.heap.size w w' := by
  have HV := Lib.hid hv
  obtain ⟨a, c, rfl, hvi⟩ := id hv
  clear hvi
  obtain ⟨k, hk⟩ : ∃ k, ckR l = k := ⟨_, rfl⟩
  have HC := Lib.hid (check10_any l k hk _ P w hv)
  unfold printT at hr
  rw [hk] at hr
  by_cases hk0 : k = 0
  · subst hk0
    rw [if_pos rfl] at hr
    obtain ⟨rfl, rfl⟩ := Prod.mk.inj hr
    obtain ⟨h1, h2, h3, h4⟩ := ck_zero hk
    obtain ⟨s, hs⟩ : ∃ s, outL l = s := ⟨_, rfl⟩
    have HP := Lib.hid (fun W (hW : VsAt W P (.slice a l.length c) l) => refPrint10_any (tots l) l (Nat.le_refl _) (by omega) false false h3 s hs _ P W hW)
    rw [hs]
    clear hr hk h1 h2 h3 h4 hv hs
    go_enter Tryz.func17, Tryz.ntmps17
    go_wp2_with fail
    refine HC.out.mono ?_
    rintro e w1 ⟨rfl, h1⟩
    have HB1 := Lib.hid h1
    have HV1 := Lib.hid (HV.out.below h1)
    clear h1
    go_wp2_with fail
    refine (HP.out _ HV1.out).mono ?_
    rintro e w2 ⟨rfl, h2⟩
    have HB2 := Lib.hid (below_then HB1.out h2)
    clear h2
    go_wp2
    go_ret2
    exact ⟨rfl, HB2.out⟩
  · have q1 : (k != 0) = true := by simpa using hk0
    rw [if_neg hk0] at hr
    obtain ⟨rfl, rfl⟩ := Prod.mk.inj hr
    clear hr hk hk0 hv
    go_enter Tryz.func17, Tryz.ntmps17
    go_wp2_with fail
    refine HC.out.mono ?_
    rintro e w1 ⟨rfl, h1⟩
    have HB1 := Lib.hid h1
    clear h1
    go_wp2
    go_ret2
    exact ⟨rfl, HB1.out⟩
theorem chr_short {l : List Nd} (h : ckR l = 0) : (chrL l).length ≤ 65536 := by
  obtain ⟨h1, h2, h3, h4⟩ := ck_zero h
  have h5 := txtP_len (preL 0 l)
  rw [txtP_chr.2, lenP_out.2 l 0 false false h3] at h5
  omega
set_option maxHeartbeats 4000000 in
theorem characters10_any (l : List Nd) (d : Bs) (e : Int) (hr : charR l = (d, e)) (v : Value) (P : Nat → Prop) (w : World) (hv : VsAt w P v l) :
    Calls Tryz.prog 19 #[v] w fun en w' => en = .returned (.tuple #[sV d, intV e]) ∧ Below w.heap.size w w' := by
  have HV := Lib.hid hv
  obtain ⟨a, c, rfl, hvi⟩ := id hv
  clear hvi
  obtain ⟨k, hk⟩ : ∃ k, ckR l = k := ⟨_, rfl⟩
  have HC := Lib.hid (check10_any l k hk _ P w hv)
  unfold charR at hr
  rw [hk] at hr
  by_cases hk0 : k = 0
  · subst hk0
    rw [if_pos rfl] at hr
    obtain ⟨rfl, rfl⟩ := Prod.mk.inj hr
    obtain ⟨h1, h2, h3, h4⟩ := ck_zero hk
    have h5 := chr_short hk
    obtain ⟨s, hs⟩ : ∃ s, chrL l = s := ⟨_, rfl⟩
    have HP := Lib.hid (fun W (hW : VsAt W P (.slice a l.length c) l) => characters_any (tots l) l (Nat.le_refl _) (by omega) (by omega) s hs _ P W hW)
    rw [hs]
    clear hr hk h1 h2 h3 h4 h5 hv hs
    go_enter Tryz.func19, Tryz.ntmps19
    go_wp2_with fail
    refine HC.out.mono ?_
    rintro e w1 ⟨rfl, h1⟩
    have HB1 := Lib.hid h1
    have HV1 := Lib.hid (HV.out.below h1)
    clear h1
    go_wp2_with fail
    refine (HP.out _ HV1.out).mono ?_
    rintro e w2 ⟨rfl, h2⟩
    have HB2 := Lib.hid (below_then HB1.out h2)
    clear h2
    go_wp2
    go_ret2
    exact ⟨rfl, HB2.out⟩
  · have q1 : (k != 0) = true := by simpa using hk0
    rw [if_neg hk0] at hr
    obtain ⟨rfl, rfl⟩ := Prod.mk.inj hr
    clear hr hk hk0 hv
    go_enter Tryz.func19, Tryz.ntmps19
    go_wp2_with fail
    refine HC.out.mono ?_
    rintro e w1 ⟨rfl, h1⟩
    have HB1 := Lib.hid h1
    clear h1
    go_wp2
    go_ret2
    exact ⟨rfl, HB1.out⟩
set_option maxHeartbeats 4000000 in
theorem count10_any (l : List Nd) (kd d e : Int) (hr : countR l kd = (d, e)) (v : Value) (P : Nat → Prop) (w : World) (hv : VsAt w P v l) :
    Calls Tryz.prog 21 #[v, intV kd] w fun en w' => en = .returned (.tuple #[intV d, intV e]) ∧ Below w.heap.size w w' := by
  have HV := Lib.hid hv
  obtain ⟨a, c, rfl, hvi⟩ := id hv
  clear hvi
  obtain ⟨k, hk⟩ : ∃ k, ckR l = k := ⟨_, rfl⟩
  have HC := Lib.hid (check10_any l k hk _ P w hv)
  unfold countR at hr
  rw [hk] at hr
  by_cases hk0 : k = 0
  · subst hk0
    rw [if_pos rfl] at hr
    obtain ⟨h1, h2, h3, h4⟩ := ck_zero hk
    by_cases hlo : kd < 1
    · have q1 : decide (kd < 1) = true := decide_eq_true hlo
      rw [if_pos (.inl hlo)] at hr
      obtain ⟨rfl, rfl⟩ := Prod.mk.inj hr
      clear hr hk h1 h2 h3 h4 hv
      go_enter Tryz.func21, Tryz.ntmps21
      go_wp2_with fail
      refine HC.out.mono ?_
      rintro e w1 ⟨rfl, h1⟩
      have HB1 := Lib.hid h1
      have HV1 := Lib.hid (HV.out.below h1)
      clear h1
      go_wp2
      go_ret2
      exact ⟨rfl, HB1.out⟩
    · have q1 : decide (kd < 1) = false := decide_eq_false hlo
      by_cases hhi : 11 < kd
      · have q2 : decide (11 < kd) = true := decide_eq_true hhi
        rw [if_pos (.inr hhi)] at hr
        obtain ⟨rfl, rfl⟩ := Prod.mk.inj hr
        clear hr hk h1 h2 h3 h4 hv
        go_enter Tryz.func21, Tryz.ntmps21
        go_wp2_with fail
        refine HC.out.mono ?_
        rintro e w1 ⟨rfl, h1⟩
        have HB1 := Lib.hid h1
        have HV1 := Lib.hid (HV.out.below h1)
        clear h1
        go_wp2
        go_ret2
        exact ⟨rfl, HB1.out⟩
      · have q2 : decide (11 < kd) = false := decide_eq_false hhi
        rw [if_neg (by omega)] at hr
        obtain ⟨rfl, rfl⟩ := Prod.mk.inj hr
        obtain ⟨n, hn⟩ : ∃ n, cntL kd l = n := ⟨_, rfl⟩
        have HP := Lib.hid (fun W (hW : VsAt W P (.slice a l.length c) l) => count_any kd (tots l) l (Nat.le_refl _) (by omega) n hn _ P W hW)
        rw [hn]
        clear hr hk h1 h2 h3 h4 hv hn
        go_enter Tryz.func21, Tryz.ntmps21
        go_wp2_with fail
        refine HC.out.mono ?_
        rintro e w1 ⟨rfl, h1⟩
        have HB1 := Lib.hid h1
        have HV1 := Lib.hid (HV.out.below h1)
        clear h1
        go_wp2_with fail
        refine (HP.out _ HV1.out).mono ?_
        rintro e w2 ⟨rfl, h2⟩
        have HB2 := Lib.hid (below_then HB1.out h2)
        clear h2
        go_wp2
        go_ret2
        exact ⟨rfl, HB2.out⟩
  · have q1 : (k != 0) = true := by simpa using hk0
    rw [if_neg hk0] at hr
    obtain ⟨rfl, rfl⟩ := Prod.mk.inj hr
    clear hr hk hk0 hv
    go_enter Tryz.func21, Tryz.ntmps21
    go_wp2_with fail
    refine HC.out.mono ?_
    rintro e w1 ⟨rfl, h1⟩
    have HB1 := Lib.hid h1
    have HV1 := Lib.hid (HV.out.below h1)
    clear h1
    go_wp2
    go_ret2
    exact ⟨rfl, HB1.out⟩
set_option maxHeartbeats 4000000 in
theorem depth10_any (l : List Nd) (d e : Int) (hr : depthR l = (d, e)) (v : Value) (P : Nat → Prop) (w : World) (hv : VsAt w P v l) :
    Calls Tryz.prog 23 #[v] w fun en w' => en = .returned (.tuple #[intV d, intV e]) ∧ Below w.heap.size w w' := by
  have HV := Lib.hid hv
  obtain ⟨a, c, rfl, hvi⟩ := id hv
  clear hvi
  obtain ⟨k, hk⟩ : ∃ k, ckR l = k := ⟨_, rfl⟩
  have HC := Lib.hid (check10_any l k hk _ P w hv)
  unfold depthR at hr
  rw [hk] at hr
  by_cases hk0 : k = 0
  · subst hk0
    rw [if_pos rfl] at hr
    obtain ⟨rfl, rfl⟩ := Prod.mk.inj hr
    obtain ⟨h1, h2, h3, h4⟩ := ck_zero hk
    obtain ⟨td, htd⟩ : ∃ td, deps l = td := ⟨_, rfl⟩
    have HP := Lib.hid (fun W (hW : VsAt W P (.slice a l.length c) l) => size_any (tots l) l (Nat.le_refl _) 16 4096 (((tots l : Nat) : Int), ((td : Nat) : Int), true) (by unfold sizeR; rw [if_pos ⟨h1, h2⟩, htd]) (by omega) (by omega) _ P W hW)
    rw [htd]
    clear hr hk h1 h2 h3 h4 hv htd
    go_enter Tryz.func23, Tryz.ntmps23
    go_wp2_with fail
    refine HC.out.mono ?_
    rintro e w1 ⟨rfl, h1⟩
    have HB1 := Lib.hid h1
    have HV1 := Lib.hid (HV.out.below h1)
    clear h1
    go_wp2_with fail
    refine (HP.out _ HV1.out).mono ?_
    rintro e w2 ⟨rfl, h2⟩
    have HB2 := Lib.hid (below_then HB1.out h2)
    clear h2
    go_wp2
    go_ret2
    exact ⟨rfl, HB2.out⟩
  · have q1 : (k != 0) = true := by simpa using hk0
    rw [if_neg hk0] at hr
    obtain ⟨rfl, rfl⟩ := Prod.mk.inj hr
    clear hr hk hk0 hv
    go_enter Tryz.func23, Tryz.ntmps23
    go_wp2_with fail
    refine HC.out.mono ?_
    rintro e w1 ⟨rfl, h1⟩
    have HB1 := Lib.hid h1
    clear h1
    go_wp2
    go_ret2
    exact ⟨rfl, HB1.out⟩
end Go.Proofs.YtmfcepfagbkceaaGreatDoor
namespace Go.Proofs.YtmfcepfagbkceaaGreatDoor
set_option linter.unusedSimpArgs false
set_option linter.unusedVariables false
set_option maxRecDepth 100000
open Go.RowKit Go.Shelf Go.Deep
theorem vat_pl {W : World} {P : Nat → Prop} {v : Value} {x : Nd} (h : VAt W P v x) : x.ps.length ≤ 9223372036854775807 := by
  obtain ⟨k, t, n, l⟩ := x
  obtain ⟨_, _, _, h4, _⟩ := vat_of h
  exact h4
theorem longN_ps (d : Nat) (x : Nd) : longN d x = (decide (d = 0) || (badT x.tx || longL (d - 1) x.ps)) := by
  obtain ⟨k, t, n, p⟩ := x
  rw [longN]; rfl
theorem long_at {d : Nat} {l : List Nd} {j : Nat} (h : j < l.length) : longL d (l.drop j) = (longN d l[j] || longL d (l.drop (j + 1))) := by
  rw [List.drop_eq_getElem_cons h, longL]
set_option maxHeartbeats 4000000 in
theorem long10_any : ∀ (N : Nat) (l : List Nd), tots l ≤ N → ∀ (d : Nat) (r : Bool), longL d l = r → d ≤ 1000 → l.length ≤ 9223372036854775807 → ∀ (v : Value) (P : Nat → Prop) (w : World), VsAt w P v l →
    Calls Tryz.prog 45 #[v, intV d] w fun e w' => e = .returned (.bool r) ∧ Below w.heap.size w w' := by
  intro N
  induction N using Nat.strongRecOn with
  | _ N ih =>
    intro l hN d r hr hd hll v P w hv
    have HV := Lib.hid hv
    obtain ⟨a, c, rfl, hvi⟩ := id hv
    clear hvi
    have IH := Lib.hid ih
    have HR := Lib.hid hr
    clear ih hr hv
    go_enter Tryz.func45, Tryz.ntmps45
    go_wp2
    go_loopw [5] (fun iv wr => ∃ j : Nat, j ≤ l.length ∧ iv = .int .i64 j ∧ Hid (longL d (l.drop j) = r) ∧ Below w.heap.size w wr) (fun iv _ => l.length - (intOf iv).toNat)
    case atStart => exact ⟨0, Nat.zero_le _, rfl, Lib.hid (by rw [List.drop_zero]; exact HR.out), Below.refl _ _⟩
    case round =>
      obtain ⟨j, hj, rfl, HT, hB⟩ := hrel
      obtain ⟨wk, rfl⟩ : ∃ x, x = wr := ⟨_, rfl⟩
      have HB := Lib.hid hB
      by_cases hlt : j < l.length
      · obtain ⟨b, off, sa, sc, rfl, hpb, hbb, c1, c2, c3, c4, hx⟩ := HV.out.elem' hlt
        have d2 := (hB.cell (p := ⟨b, off + j * 4 + 1, none⟩) hbb).trans c2
        have d4 := (hB.cell (p := ⟨b, off + j * 4 + 3, none⟩) hbb).trans c4
        have hvs := parts_at hx hB
        have hst := long_at (d := d) hlt
        rw [HT.out, longN_ps] at hst
        have hmt := (tots_mem hlt).1
        have hxt := tot_ps l[j]
        have htx := vat_txR hx
        have hpl := vat_pl hx
        have i0 : (0 : Int) ≤ (j : Int) := by omega
        have i1 : (j : Int) < (l.length : Int) := by omega
        obtain ⟨x, hxe⟩ : ∃ x, l[j] = x := ⟨_, rfl⟩
        rw [hxe] at d2 d4 hvs hst hmt hxt htx hpl
        obtain ⟨r2, hr2⟩ : ∃ r2, longL (d - 1) x.ps = r2 := ⟨_, rfl⟩
        rw [hr2] at hst
        have HC := Lib.hid (fun W (hW : VsAt W P (.slice sa x.ps.length sc) x.ps) => IH.out (tots x.ps) (by omega) x.ps (Nat.le_refl _) (d - 1) r2 hr2 (by omega) hpl _ P W hW)
        have HX := Lib.hid hvs
        obtain ⟨t, ht⟩ : ∃ t, x.tx = t := ⟨_, rfl⟩
        rw [ht] at d2 hst htx
        have zt : (baL t).size = t.length := baL_size t
        have HST := Lib.hid hst
        unfold maxLen at htx
        have tl0 : (0 : Int) ≤ (t.length : Int) := by omega
        clear hpl hst hvs hmt hxt hx c1 c2 c3 c4 hr2 ht hxe
        by_cases hd0 : d = 0
        · have q1 : ((d : Int) == 0) = true := by simp [hd0]
          have HZ := Lib.hid (show true = r by rw [HST.out]; simp [hd0])
          clear hd0 hB
          go_wp2
          go_ret
          exact ⟨by rw [← HZ.out]; rfl, HB.out⟩
        · have q1 : ((d : Int) == 0) = false := by rw [beq_eq_false_iff_ne]; omega
          have w2 : IntKind.i64.wrap ((d : Int) - 1) = ((d - 1 : Nat) : Int) := by rw [show (d : Int) - 1 = ((d - 1 : Nat) : Int) by omega]; exact IntWalk.i64_in _ (by omega)
          by_cases hA : 60 < t.length
          · have q2 : decide ((60 : Int) < (t.length : Int)) = true := decide_eq_true (by omega)
            by_cases hA2 : t.length ≤ 65536
            · have q3 : decide ((t.length : Int) ≤ 65536) = true := decide_eq_true (by omega)
              have HZ := Lib.hid (show true = r by rw [HST.out]; unfold badT; simp [hA, hA2])
              clear hA hA2 hd0 hB
              go_wp2
              go_ret
              exact ⟨by rw [← HZ.out]; rfl, HB.out⟩
            · have q3 : decide ((t.length : Int) ≤ 65536) = false := decide_eq_false (by omega)
              by_cases hA3 : 65540 < t.length
              · have q4 : decide ((65540 : Int) < (t.length : Int)) = true := decide_eq_true (by omega)
                have HZ := Lib.hid (show true = r by rw [HST.out]; unfold badT; simp [hA3])
                clear hA hA2 hA3 hd0 hB
                go_wp2
                go_ret
                exact ⟨by rw [← HZ.out]; rfl, HB.out⟩
              · have q4 : decide ((65540 : Int) < (t.length : Int)) = false := decide_eq_false (by omega)
                have HS2 := Lib.hid (show r = (r2 || longL d (l.drop (j + 1))) by rw [HST.out]; unfold badT; simp [hA2, hA3, hd0])
                clear hA hA2 hA3 hd0
                have hXX := HX.out
                clear hB
                go_wp2_with fail
                refine (HC.out _ HX.out).mono ?_
                rintro e' w6 ⟨rfl, h6⟩
                have HB6 := Lib.hid (below_then HB.out h6)
                clear h6 hXX
                cases r2
                · have HS3 := Lib.hid (show longL d (l.drop (j + 1)) = r by rw [HS2.out]; simp)
                  go_wp2
                  go_roundw
                  case rel => exact ⟨j + 1, by omega, by go_num, HS3, HB6.out⟩
                  case measure => simp [intOf]; omega
                · have HS3 := Lib.hid (show true = r by rw [HS2.out]; simp)
                  go_wp2
                  go_ret
                  exact ⟨by rw [← HS3.out]; rfl, HB6.out⟩
          · have q2 : decide ((60 : Int) < (t.length : Int)) = false := decide_eq_false (by omega)
            have q4 : decide ((65540 : Int) < (t.length : Int)) = false := decide_eq_false (by omega)
            have HS2 := Lib.hid (show r = (r2 || longL d (l.drop (j + 1))) by
              rw [HST.out]; unfold badT
              have h3 : ¬ 65540 < t.length := by omega
              simp [hA, h3, hd0])
            clear hA hd0
            have hXX := HX.out
            clear hB
            go_wp2_with fail
            refine (HC.out _ HX.out).mono ?_
            rintro e' w6 ⟨rfl, h6⟩
            have HB6 := Lib.hid (below_then HB.out h6)
            clear h6 hXX
            cases r2
            · have HS3 := Lib.hid (show longL d (l.drop (j + 1)) = r by rw [HS2.out]; simp)
              go_wp2
              go_roundw
              case rel => exact ⟨j + 1, by omega, by go_num, HS3, HB6.out⟩
              case measure => simp [intOf]; omega
            · have HS3 := Lib.hid (show true = r by rw [HS2.out]; simp)
              go_wp2
              go_ret
              exact ⟨by rw [← HS3.out]; rfl, HB6.out⟩
      · have HZ := Lib.hid (show false = r by rw [← HT.out, List.drop_of_length_le (by omega), longL])
        clear hB
        go_wp2
        go_ret
        exact ⟨by rw [← HZ.out]; rfl, HB.out⟩
set_option maxHeartbeats 4000000 in
theorem great10_any (l : List Nd) (r : Bool) (hr : greatR l = r) (hll : l.length ≤ 9223372036854775807) (v : Value) (P : Nat → Prop) (w : World) (hv : VsAt w P v l) :
    Calls Tryz.prog 15 #[v] w fun e w' => e = .returned (.bool r) ∧ Below w.heap.size w w' := by
  have HV := Lib.hid hv
  obtain ⟨a, c, rfl, hvi⟩ := id hv
  clear hvi
  obtain ⟨rl, hrl⟩ : ∃ rl, longL 20 l = rl := ⟨_, rfl⟩
  have HL := Lib.hid (fun W (hW : VsAt W P (.slice a l.length c) l) => long10_any (tots l) l (Nat.le_refl _) 20 rl hrl (by omega) hll _ P W hW)
  unfold greatR at hr
  rw [hrl] at hr
  by_cases hflat : 4096 < l.length ∧ l.length ≤ 4100
  · rw [if_neg (by omega)] at hr
    have q1 : decide ((l.length : Int) ≤ 4096) = false := decide_eq_false (by omega)
    have q2 : decide ((4100 : Int) < (l.length : Int)) = false := decide_eq_false (by omega)
    have HR := Lib.hid hr
    have hlb : l.length ≤ 4100 := hflat.2
    clear hr hrl hv hflat
    go_enter Tryz.func15, Tryz.ntmps15
    go_wp2
    go_loopw [6] (fun iv wr => ∃ j : Nat, j ≤ l.length ∧ iv = .int .i64 j ∧ Hid ((l.drop j).any (fun x => decide (0 < x.ps.length)) = l.any (fun x => decide (0 < x.ps.length))) ∧ Below w.heap.size w wr) (fun iv _ => l.length - (intOf iv).toNat)
    case atStart => exact ⟨0, Nat.zero_le _, rfl, Lib.hid (by rw [List.drop_zero]), Below.refl _ _⟩
    case round =>
      obtain ⟨j, hj, rfl, HT, hB⟩ := hrel
      obtain ⟨wk, rfl⟩ : ∃ x, x = wr := ⟨_, rfl⟩
      have HB := Lib.hid hB
      by_cases hlt : j < l.length
      · obtain ⟨b, off, sa, sc, rfl, hpb, hbb, c1, c2, c3, c4, hx⟩ := HV.out.elem' hlt
        have d4 := (hB.cell (p := ⟨b, off + j * 4 + 3, none⟩) hbb).trans c4
        have hst := HT.out
        rw [List.drop_eq_getElem_cons hlt, List.any_cons] at hst
        have i0 : (0 : Int) ≤ (j : Int) := by omega
        have i1 : (j : Int) < (l.length : Int) := by omega
        obtain ⟨x, hxe⟩ : ∃ x, l[j] = x := ⟨_, rfl⟩
        rw [hxe] at d4 hst
        obtain ⟨m, hm⟩ : ∃ m, x.ps.length = m := ⟨_, rfl⟩
        rw [hm] at d4 hst
        by_cases hm0 : 0 < m
        · have q3 : decide ((0 : Int) < (m : Int)) = true := decide_eq_true (by omega)
          have HZ := Lib.hid (show true = r by rw [← HR.out, ← hst]; simp [hm0])
          clear hst hx hm c1 c2 c3 c4 hxe hB
          go_wp2
          go_ret
          exact ⟨by rw [← HZ.out]; rfl, HB.out⟩
        · have q3 : decide ((0 : Int) < (m : Int)) = false := decide_eq_false (by omega)
          have HT2 := Lib.hid (show (l.drop (j + 1)).any (fun x => decide (0 < x.ps.length)) = l.any (fun x => decide (0 < x.ps.length)) by rw [← hst]; simp [hm0])
          clear hst hx hm c1 c2 c3 c4 hxe hB
          go_wp2
          go_roundw
          case rel => exact ⟨j + 1, by omega, by go_num, HT2, HB.out⟩
          case measure => simp [intOf]; omega
      · have HZ := Lib.hid (show rl = r by rw [← HR.out, ← HT.out, List.drop_of_length_le (by omega)]; rfl)
        have HV1 := Lib.hid (HV.out.below hB)
        clear hB
        go_wp2_with fail
        refine (HL.out _ HV1.out).mono ?_
        rintro e' w6 ⟨rfl, h6⟩
        have HB6 := Lib.hid (below_then HB.out h6)
        clear h6
        go_wp2
        go_ret
        exact ⟨by rw [← HZ.out]; rfl, HB6.out⟩
  · rw [if_pos (by omega)] at hr
    have HS : ∀ q, (q = decide (tots l ≤ 40 ∧ deps l ≤ 20)) → Hid (∃ x y : Int, Calls Tryz.prog 44 #[.slice a l.length c, intV 20, intV 40] w fun e w' => e = .returned (.tuple #[intV x, intV y, .bool q]) ∧ Below w.heap.size w w') := fun q hq => by
      by_cases hok : tots l ≤ 40 ∧ deps l ≤ 20
      · have : q = true := by rw [hq]; exact decide_eq_true hok
        subst this
        exact Lib.hid ⟨_, _, size_any (tots l) l (Nat.le_refl _) 20 40 (((tots l : Nat) : Int), ((deps l : Nat) : Int), true) (by unfold sizeR; rw [if_pos hok]) (by omega) (by omega) _ P w hv⟩
      · have : q = false := by rw [hq]; exact decide_eq_false hok
        subst this
        exact Lib.hid ⟨_, _, size_any (tots l) l (Nat.le_refl _) 20 40 (0, 0, false) (by unfold sizeR; rw [if_neg hok]) (by omega) (by omega) _ P w hv⟩
    have hq1 : (l.length ≤ 4096 ∧ decide ((l.length : Int) ≤ 4096) = true) ∨ (decide ((l.length : Int) ≤ 4096) = false ∧ decide ((4100 : Int) < (l.length : Int)) = true) := by
      by_cases h : l.length ≤ 4096
      · exact .inl ⟨h, decide_eq_true (by omega)⟩
      · exact .inr ⟨decide_eq_false (by omega), decide_eq_true (by omega)⟩
    obtain ⟨q, hq⟩ : ∃ q, q = decide (tots l ≤ 40 ∧ deps l ≤ 20) := ⟨_, rfl⟩
    have HS2 := HS q hq
    rw [← hq] at hr
    have HR := Lib.hid hr
    clear HS hq hr hrl hv hflat
    obtain ⟨sx, sy, HS3⟩ := HS2.out
    have HS4 := Lib.hid HS3
    clear HS3 HS2
    rcases hq1 with ⟨_, q1⟩ | ⟨q1, q2⟩
    all_goals
      cases q
      · have HZ := Lib.hid (show true = r by rw [← HR.out]; rfl)
        go_enter Tryz.func15, Tryz.ntmps15
        go_wp2_with fail
        refine HS4.out.mono ?_
        rintro e w1 ⟨rfl, h1⟩
        have HB1 := Lib.hid h1
        clear h1
        go_wp2
        go_ret
        exact ⟨by rw [← HZ.out]; rfl, HB1.out⟩
      · have HZ := Lib.hid (show rl = r by rw [← HR.out]; rfl)
        go_enter Tryz.func15, Tryz.ntmps15
        go_wp2_with fail
        refine HS4.out.mono ?_
        rintro e w1 ⟨rfl, h1⟩
        have HB1 := Lib.hid h1
        have HV1 := Lib.hid (HV.out.below h1)
        clear h1
        go_wp2_with fail
        refine (HL.out _ HV1.out).mono ?_
        rintro e' w6 ⟨rfl, h6⟩
        have HB6 := Lib.hid (below_then HB1.out h6)
        clear h6
        go_wp2
        go_ret
        exact ⟨by rw [← HZ.out]; rfl, HB6.out⟩
def fineR (l : List Nd) : Bool := !greatR l && decide (ckR l = 0)
set_option maxHeartbeats 4000000 in
theorem fine_any (l : List Nd) (r : Bool) (hr : fineR l = r) (hll : l.length ≤ 9223372036854775807) (v : Value) (P : Nat → Prop) (w : World) (hv : VsAt w P v l) :
    Calls Tryz.prog 29 #[v] w fun e w' => e = .returned (.bool r) ∧ Below w.heap.size w w' := by
  have HV := Lib.hid hv
  obtain ⟨a, c, rfl, hvi⟩ := id hv
  clear hvi
  obtain ⟨g, hg⟩ : ∃ g, greatR l = g := ⟨_, rfl⟩
  have HG := Lib.hid (great10_any l g hg hll _ P w hv)
  unfold fineR at hr
  rw [hg] at hr
  cases g
  · obtain ⟨k, hk⟩ : ∃ k, ckR l = k := ⟨_, rfl⟩
    have HC := Lib.hid (fun W (hW : VsAt W P (.slice a l.length c) l) => check10_any l k hk _ P W hW)
    rw [hk] at hr
    have HR := Lib.hid (show (k == 0) = r by rw [← hr, beq_dec]; rfl)
    clear hr hk hg hv hll
    go_enter Tryz.func29, Tryz.ntmps29
    go_wp2_with fail
    refine HG.out.mono ?_
    rintro e w1 ⟨rfl, h1⟩
    have HB1 := Lib.hid h1
    have HV1 := Lib.hid (HV.out.below h1)
    clear h1
    go_wp2_with fail
    refine (HC.out _ HV1.out).mono ?_
    rintro e' w6 ⟨rfl, h6⟩
    have HB6 := Lib.hid (below_then HB1.out h6)
    clear h6
    go_wp2
    go_ret
    exact ⟨by rw [← HR.out]; rfl, HB6.out⟩
  · have HR := Lib.hid (show false = r by rw [← hr]; rfl)
    clear hr hg hv hll
    go_enter Tryz.func29, Tryz.ntmps29
    go_wp2_with fail
    refine HG.out.mono ?_
    rintro e w1 ⟨rfl, h1⟩
    have HB1 := Lib.hid h1
    clear h1
    go_wp2
    go_ret
    exact ⟨by rw [← HR.out]; rfl, HB1.out⟩
end Go.Proofs.YtmfcepfagbkceaaGreatDoor
