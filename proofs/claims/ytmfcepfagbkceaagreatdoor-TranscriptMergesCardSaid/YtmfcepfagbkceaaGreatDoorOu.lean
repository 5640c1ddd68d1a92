/- Stage 10 (transcript): TrRefD TrRefN, put together by merge10.py. -/
import Derived.Test.YtmfcepfagbkceaaGreatDoorOt
import Derived.Test.YtmfcepfagbkceaaGreatDoorOj1
import Derived.Test.YtmfcepfagbkceaaGreatDoorOq
import Derived.Test.YtmfcepfagbkceaaGreatDoorOn
import Derived.Test.YtmfcepfagbkceaaGreatDoorOb
namespace Go.Proofs.YtmfcepfagbkceaaGreatDoor
set_option linter.unusedSimpArgs false
set_option linter.unusedVariables false
set_option maxRecDepth 100000
open Go.RowKit Go.Deep
theorem single_any (k : Int) (t : Bs) (n : Int) (sa : Option Addr) (pl sc : Nat) (b wi : Bool) (r : Int) (hr : sgl k t n (decide (pl = 0)) b wi = r) (ht : t.length ≤ maxLen) (w : World) :
    Calls Tryz.prog 84 #[.agg #[intV k, sV t, intV n, .slice sa pl sc], .bool b, .bool wi] w fun e w' => e = .returned (intV r) ∧ Below w.heap.size w w' := by
  by_cases hlo : k < 1
  · have hz : (8 : Int) = r := by rw [← hr]; unfold sgl; rw [if_pos (.inl hlo)]
    subst hz
    have q1 : decide (k < 1) = true := decide_eq_true hlo
    clear hr
    go_enter Tryz.func84, Tryz.ntmps84
    go_wp2
    go_ret
    exact ⟨rfl, below_alloc _ _⟩
  · by_cases hhi : 11 < k
    · have hz : (8 : Int) = r := by rw [← hr]; unfold sgl; rw [if_pos (.inr (.inl hhi))]
      subst hz
      have q1 : decide (k < 1) = false := decide_eq_false hlo
      have q2 : decide (11 < k) = true := decide_eq_true hhi
      clear hr
      go_enter Tryz.func84, Tryz.ntmps84
      go_wp2
      go_ret
      exact ⟨rfl, below_alloc _ _⟩
    · have hk : k = 1 ∨ k = 2 ∨ k = 3 ∨ k = 4 ∨ k = 5 ∨ k = 6 ∨ k = 7 ∨ k = 8 ∨ k = 9 ∨ k = 10 ∨ k = 11 := by omega
      rcases hk with rfl | rfl | rfl | rfl | rfl | rfl | rfl | rfl | rfl | rfl | rfl
      · exact single_1 t n sa pl sc b wi r hr ht w
      · exact single_2 t n sa pl sc b wi r hr ht w
      · exact single_3 t n sa pl sc b wi r hr ht w
      · exact single_4 t n sa pl sc b wi r hr ht w
      · exact single_5 t n sa pl sc b wi r hr ht w
      · exact single_6 t n sa pl sc b wi r hr ht w
      · exact single_7 t n sa pl sc b wi r hr ht w
      · exact single_8 t n sa pl sc b wi r hr ht w
      · exact single_9 t n sa pl sc b wi r hr ht w
      · exact single_10 t n sa pl sc b wi r hr ht w
      · exact single_11 t n sa pl sc b wi r hr ht w
theorem vat_txR {W : World} {P : Nat → Prop} {v : Value} {x : Nd} (h : VAt W P v x) : x.tx.length ≤ maxLen := by
  obtain ⟨k, t, n, l⟩ := x
  obtain ⟨_, _, h3, _⟩ := vat_of h
  exact h3
theorem isE_dec (l : List Nd) : l.isEmpty = decide (l.length = 0) := by cases l <;> simp
theorem allN_ps (b wi : Bool) (x : Nd) : allN b wi x = if sgl x.kd x.tx x.nm (decide (x.ps.length = 0)) b wi ≠ 0 then sgl x.kd x.tx x.nm (decide (x.ps.length = 0)) b wi else allL false true x.ps := by
  obtain ⟨k, t, n, p⟩ := x
  rw [allN, isE_dec]
  rfl
def prevB (l : List Nd) : Nat → Bool
  | 0 => false
  | j + 1 => match l[j]? with | some x => decide (x.kd = 1) | none => false
theorem prevB_pos {l : List Nd} {j : Nat} (h : 0 < j) (hj : j - 1 < l.length) : prevB l j = (l[j - 1].kd == 1) := by
  cases j with
  | zero => omega
  | succ n => rw [prevB, List.getElem?_eq_getElem (by simpa using hj)]; simp [beq_dec]
theorem all_step {l : List Nd} {j : Nat} (h : j < l.length) (wi : Bool) {x : Nd} (hx : l[j] = x) :
    allL (prevB l j) wi (l.drop j) = if allN (prevB l j) wi x ≠ 0 then allN (prevB l j) wi x else allL (prevB l (j + 1)) wi (l.drop (j + 1)) := by
  rw [List.drop_eq_getElem_cons h, allL, hx]
  have : prevB l (j + 1) = decide (x.kd = 1) := by rw [prevB, List.getElem?_eq_getElem h, hx]
  rw [this]
set_option maxHeartbeats 4000000 in
theorem all_any : ∀ (N : Nat) (l : List Nd), tots l ≤ N → tots l ≤ 100000 → ∀ (wi : Bool) (r : Int), allL false wi l = r → ∀ (v : Value) (P : Nat → Prop) (w : World), VsAt w P v l →
    Calls Tryz.prog 60 #[v, .bool wi] w fun e w' => e = .returned (intV r) ∧ Below w.heap.size w w' := by
  intro N
  induction N using Nat.strongRecOn with
  | _ N ih =>
    intro l hN hM wi r hr v P w hv
    have HV := Lib.hid hv
    obtain ⟨a, c, rfl, _⟩ := hv
    have IH := Lib.hid ih
    have HR := Lib.hid hr
    have hll := len_tots l
    clear ih hr
    go_enter Tryz.func60, Tryz.ntmps60
    go_wp2
    go_loopw [5] (fun iv wr => ∃ j : Nat, j ≤ l.length ∧ iv = .int .i64 j ∧ Hid (allL (prevB l j) wi (l.drop j) = r) ∧ Below w.heap.size w wr) (fun iv _ => l.length - (intOf iv).toNat)
    case atStart => exact ⟨0, Nat.zero_le _, rfl, Lib.hid (by rw [List.drop_zero]; exact HR.out), Below.refl _ _⟩
    case round =>
      obtain ⟨j, hj, rfl, HT, hB⟩ := hrel
      obtain ⟨wk, rfl⟩ : ∃ x, x = wr := ⟨_, rfl⟩
      have HB := Lib.hid hB
      by_cases hlt : j < l.length
      · obtain ⟨b, off, sa, sc, rfl, hpb, hbb, c1, c2, c3, c4, hx⟩ := HV.out.elem' hlt
        have HD := Lib.hid (show wk.drew.cell? ⟨b, off + j * 4, none⟩ = some (intV l[j].kd) ∧ wk.drew.cell? ⟨b, off + j * 4 + 1, none⟩ = some (sV l[j].tx) ∧ wk.drew.cell? ⟨b, off + j * 4 + 2, none⟩ = some (intV l[j].nm) ∧ wk.drew.cell? ⟨b, off + j * 4 + 3, none⟩ = some (.slice sa l[j].ps.length sc) from
          ⟨(hB.cell (p := ⟨b, off + j * 4, none⟩) hbb).trans c1, (hB.cell (p := ⟨b, off + j * 4 + 1, none⟩) hbb).trans c2, (hB.cell (p := ⟨b, off + j * 4 + 2, none⟩) hbb).trans c3, (hB.cell (p := ⟨b, off + j * 4 + 3, none⟩) hbb).trans c4⟩)
        have hvs := parts_at hx hB
        have htx := vat_txR hx
        have hst := all_step hlt wi rfl
        rw [HT.out] at hst
        have hmt := (tots_mem hlt).1
        have hxt := tot_ps l[j]
        have i0 : (0 : Int) ≤ (j : Int) := by omega
        have i1 : (j : Int) < (l.length : Int) := by omega
        obtain ⟨x, hxe⟩ : ∃ x, l[j] = x := ⟨_, rfl⟩
        rw [hxe] at HD hvs htx hst hmt hxt
        rw [allN_ps] at hst
        obtain ⟨pb, hpb2⟩ : ∃ pb, prevB l j = pb := ⟨_, rfl⟩
        rw [hpb2] at hst
        obtain ⟨r1, hr1⟩ : ∃ r1, sgl x.kd x.tx x.nm (decide (x.ps.length = 0)) pb wi = r1 := ⟨_, rfl⟩
        obtain ⟨r2, hr2⟩ : ∃ r2, allL false true x.ps = r2 := ⟨_, rfl⟩
        rw [hr1, hr2] at hst
        have HC1 := Lib.hid (fun W => single_any x.kd x.tx x.nm sa x.ps.length sc pb wi r1 hr1 htx W)
        have HC2 := Lib.hid (fun W (hW : VsAt W P (.slice sa x.ps.length sc) x.ps) => IH.out (tots x.ps) (by omega) x.ps (Nat.le_refl _) (by omega) true r2 hr2 _ P W hW)
        have HX := Lib.hid hvs
        have HST := Lib.hid (show (r1 ≠ 0 → r1 = r) ∧ (r1 = 0 → r2 ≠ 0 → r2 = r) ∧ (r1 = 0 → r2 = 0 → allL (prevB l (j + 1)) wi (l.drop (j + 1)) = r) from by
          refine ⟨fun h => ?_, fun h g => ?_, fun h g => ?_⟩
          · rw [if_pos h, if_pos h] at hst; exact hst.symm
          · have h' : ¬ r1 ≠ 0 := by simpa using h
            rw [if_neg h', if_pos g] at hst; exact hst.symm
          · have h' : ¬ r1 ≠ 0 := by simpa using h
            have g' : ¬ r2 ≠ 0 := by simpa using g
            rw [if_neg h', if_neg g'] at hst; exact hst.symm)
        have HPB := Lib.hid hpb2
        have HBB := Lib.hid (show b < wk.heap.size from Nat.lt_of_lt_of_le hbb hB.size)
        have HPV := Lib.hid (show 0 < j → ∃ y, wk.drew.cell? ⟨b, off + (j - 1) * 4, none⟩ = some (intV y) ∧ pb = (y == 1) from fun hj0 => by
          obtain ⟨b', off', sa', sc', e, _, hbb', c1', _⟩ := HV.out.elem' (show j - 1 < l.length by omega)
          cases e
          refine ⟨_, (hB.cell (p := ⟨b, off + (j - 1) * 4, none⟩) hbb').trans c1', ?_⟩
          rw [← hpb2]
          exact prevB_pos hj0 (by omega))
        clear hB hvs htx hst hmt hxt hr1 hr2 c1 c2 c3 c4 hx hpb2 hbb hxe
        by_cases hj0 : 0 < j
        · obtain ⟨y, hy, hpy⟩ := HPV.out hj0
          have jq : decide ((0 : Int) < (j : Int)) = true := decide_eq_true (by omega)
          have jw : IntKind.i64.wrap ((j : Int) - 1) = ((j - 1 : Nat) : Int) := by rw [show (j : Int) - 1 = ((j - 1 : Nat) : Int) by omega]; exact IntWalk.i64_in _ (by omega)
          have j0 : (0 : Int) ≤ ((j - 1 : Nat) : Int) := by omega
          have j1 : ((j - 1 : Nat) : Int) < (l.length : Int) := by omega
          have HDY := Lib.hid (show (wk.drew.cell? ⟨b, off + j * 4, none⟩ = some (intV x.kd) ∧ wk.drew.cell? ⟨b, off + j * 4 + 1, none⟩ = some (sV x.tx) ∧ wk.drew.cell? ⟨b, off + j * 4 + 2, none⟩ = some (intV x.nm) ∧ wk.drew.cell? ⟨b, off + j * 4 + 3, none⟩ = some (.slice sa x.ps.length sc)) ∧ wk.drew.cell? ⟨b, off + (j - 1) * 4, none⟩ = some (intV y) from ⟨HD.out, hy⟩)
          clear HPV hy HT
          go_upto_region 4 with fail
          refine wp_region_noPanic ?_
          refine wp_region_any (by kernel_rfl) (wpAny_of_k (S := fun _ => True) (S' := fun W' => (W'.cell? ⟨b, off + j * 4, none⟩ = some (intV x.kd) ∧ W'.cell? ⟨b, off + j * 4 + 1, none⟩ = some (sV x.tx) ∧ W'.cell? ⟨b, off + j * 4 + 2, none⟩ = some (intV x.nm) ∧ W'.cell? ⟨b, off + j * 4 + 3, none⟩ = some (.slice sa x.ps.length sc)) ∧ W'.cell? ⟨b, off + (j - 1) * 4, none⟩ = some (intV y)) (k := 99) _ _ _ _ ?_)
          change wpAnyK _ _ _ _ _ _ _ 18 _ _ wk.drew
          refine wpAnyK_takeD (i := 0) (v := .slice (some ⟨b, off, none⟩) l.length c) (some 14) rfl rfl (by kernel_rfl) (by kernel_rfl) (by kernel_rfl) (by decide) (fun _ _ _ h => h) (Or.inl ⟨by rfl, fun w' hw' => ?_⟩) (fun _ => trivial) (HDY.out) ?_
          · go_simp
          (try simp only [Act.put, List.setIfInBounds_toArray, List.set_cons_zero, List.set_cons_succ])
          refine wpAnyK_takeD (i := 1) (v := .int .i64 j) (some 15) rfl rfl (by kernel_rfl) (by kernel_rfl) (by kernel_rfl) (by decide) (fun _ _ _ h => h) (Or.inl ⟨by rfl, fun w' hw' => ?_⟩) (fun _ => trivial) (HDY.out) ?_
          · go_simp
          (try simp only [Act.put, List.setIfInBounds_toArray, List.set_cons_zero, List.set_cons_succ])
          refine wpAnyK_takeD (i := 2) (v := .pointer (some ⟨b, off + j * 4, none⟩)) (some 16) rfl rfl (by kernel_rfl) (by kernel_rfl) (by kernel_rfl) (by decide) (fun _ _ _ h => h) (Or.inl ⟨by rfl, fun w' hw' => ?_⟩) (fun _ => trivial) (HDY.out) ?_
          · go_simp
          (try simp only [Act.put, List.setIfInBounds_toArray, List.set_cons_zero, List.set_cons_succ])
          refine wpAnyK_takeD (i := 3) (v := .agg #[intV x.kd, sV x.tx, intV x.nm, .slice sa x.ps.length sc]) (some 17) rfl rfl (by kernel_rfl) (by kernel_rfl) (by kernel_rfl) (by decide) (fun _ _ _ h => h) (Or.inl ⟨by rfl, fun w' hw' => ?_⟩) (fun _ => trivial) (HDY.out) ?_
          · obtain ⟨⟨b0, b1, b2, b3⟩, b4⟩ := hw'; go_simp
          (try simp only [Act.put, List.setIfInBounds_toArray, List.set_cons_zero, List.set_cons_succ])
          refine wpAnyK_takeD (i := 4) (v := .int .i64 j) (some 18) rfl rfl (by kernel_rfl) (by kernel_rfl) (by kernel_rfl) (by decide) (fun _ _ _ h => h) (Or.inl ⟨by rfl, fun w' hw' => ?_⟩) (fun _ => trivial) (HDY.out) ?_
          · go_simp
          (try simp only [Act.put, List.setIfInBounds_toArray, List.set_cons_zero, List.set_cons_succ])
          refine wpAnyK_takeD (i := 5) (v := .bool true) (some 19) rfl rfl (by kernel_rfl) (by kernel_rfl) (by kernel_rfl) (by decide) (fun _ _ _ h => h) (Or.inl ⟨by rfl, fun w' hw' => ?_⟩) (fun _ => trivial) (HDY.out) ?_
          · go_simp
          (try simp only [Act.put, List.setIfInBounds_toArray, List.set_cons_zero, List.set_cons_succ])
          refine wpAnyK_takeD (i := 6) (v := .bool true) (some 20) rfl rfl (by kernel_rfl) (by kernel_rfl) (by kernel_rfl) (by decide) (fun _ _ _ h => h) (Or.inl ⟨by rfl, fun w' hw' => ?_⟩) (fun _ => trivial) (HDY.out) ?_
          · go_simp
          (try simp only [Act.put, List.setIfInBounds_toArray, List.set_cons_zero, List.set_cons_succ])
          refine wpAnyK_takeD (i := 7) (v := .slice (some ⟨b, off, none⟩) l.length c) (some 21) rfl rfl (by kernel_rfl) (by kernel_rfl) (by kernel_rfl) (by decide) (fun _ _ _ h => h) (Or.inl ⟨by rfl, fun w' hw' => ?_⟩) (fun _ => trivial) (HDY.out) ?_
          · go_simp
          (try simp only [Act.put, List.setIfInBounds_toArray, List.set_cons_zero, List.set_cons_succ])
          refine wpAnyK_takeD (i := 8) (v := .int .i64 j) (some 22) rfl rfl (by kernel_rfl) (by kernel_rfl) (by kernel_rfl) (by decide) (fun _ _ _ h => h) (Or.inl ⟨by rfl, fun w' hw' => ?_⟩) (fun _ => trivial) (HDY.out) ?_
          · go_simp
          (try simp only [Act.put, List.setIfInBounds_toArray, List.set_cons_zero, List.set_cons_succ])
          refine wpAnyK_takeD (i := 9) (v := .int .i64 (j - 1 : Nat)) (some 23) rfl rfl (by kernel_rfl) (by kernel_rfl) (by kernel_rfl) (by decide) (fun _ _ _ h => h) (Or.inl ⟨by rfl, fun w' hw' => ?_⟩) (fun _ => trivial) (HDY.out) ?_
          · go_simp
          (try simp only [Act.put, List.setIfInBounds_toArray, List.set_cons_zero, List.set_cons_succ])
          refine wpAnyK_takeD (i := 10) (v := .pointer (some ⟨b, off + (j - 1) * 4, none⟩)) (some 24) rfl rfl (by kernel_rfl) (by kernel_rfl) (by kernel_rfl) (by decide) (fun _ _ _ h => h) (Or.inl ⟨by rfl, fun w' hw' => ?_⟩) (fun _ => trivial) (HDY.out) ?_
          · go_simp
          (try simp only [Act.put, List.setIfInBounds_toArray, List.set_cons_zero, List.set_cons_succ])
          refine wpAnyK_takeD (i := 11) (v := .pointer (some ⟨b, off + (j - 1) * 4, none⟩)) (some 25) rfl rfl (by kernel_rfl) (by kernel_rfl) (by kernel_rfl) (by decide) (fun _ _ _ h => h) (Or.inl ⟨by rfl, fun w' hw' => ?_⟩) (fun _ => trivial) (HDY.out) ?_
          · go_simp
          (try simp only [Act.put, List.setIfInBounds_toArray, List.set_cons_zero, List.set_cons_succ])
          refine wpAnyK_takeD (i := 12) (v := intV y) (some 26) rfl rfl (by kernel_rfl) (by kernel_rfl) (by kernel_rfl) (by decide) (fun _ _ _ h => h) (Or.inl ⟨by rfl, fun w' hw' => ?_⟩) (fun _ => trivial) (HDY.out) ?_
          · obtain ⟨⟨b0, b1, b2, b3⟩, b4⟩ := hw'; go_simp
          (try simp only [Act.put, List.setIfInBounds_toArray, List.set_cons_zero, List.set_cons_succ])
          refine wpAnyK_takeD (i := 13) (v := .bool (y == 1)) (some 27) rfl rfl (by kernel_rfl) (by kernel_rfl) (by kernel_rfl) (by decide) (fun _ _ _ h => h) (Or.inl ⟨by rfl, fun w' hw' => ?_⟩) (fun _ => trivial) (HDY.out) ?_
          · go_simp
          (try simp only [Act.put, List.setIfInBounds_toArray, List.set_cons_zero, List.set_cons_succ])
          refine wpAnyK_takeD (i := 14) (v := .bool (y == 1)) (some 28) rfl rfl (by kernel_rfl) (by kernel_rfl) (by kernel_rfl) (by decide) (fun _ _ _ h => h) (Or.inl ⟨by rfl, fun w' hw' => ?_⟩) (fun _ => trivial) (HDY.out) ?_
          · go_simp
          (try simp only [Act.put, List.setIfInBounds_toArray, List.set_cons_zero, List.set_cons_succ])
          refine wpAnyK_takeD (i := 15) (v := .bool wi) (some 29) rfl rfl (by kernel_rfl) (by kernel_rfl) (by kernel_rfl) (by decide) (fun _ _ _ h => h) (Or.inl ⟨by rfl, fun w' hw' => ?_⟩) (fun _ => trivial) (HDY.out) ?_
          · go_simp
          (try simp only [Act.put, List.setIfInBounds_toArray, List.set_cons_zero, List.set_cons_succ])
          rw [hpy] at HC1
          refine wpAnyK_all (rs := [16]) (by kernel_rfl) (by simp) ?_
          intro i' hi'
          obtain rfl := List.mem_singleton.1 hi'
          clear hi'
          refine wpOp_step rfl fun K hK => ?_
          go_simp
          go_at_call 84
          refine (HC1.out _).mono ?_
          rintro e' w4 ⟨rfl, h4⟩
          have HB4 := Lib.hid (below_then (HB.out.trans (below_drew1S (N := w.heap.size) wk)) h4)
          have HX4 := Lib.hid (HX.out.below (below_then (below_drew1S (N := wk.heap.size) wk) h4))
          have HD4 := Lib.hid (show (w4.cell? ⟨b, off + j * 4, none⟩ = some (intV x.kd) ∧ w4.cell? ⟨b, off + j * 4 + 1, none⟩ = some (sV x.tx) ∧ w4.cell? ⟨b, off + j * 4 + 2, none⟩ = some (intV x.nm) ∧ w4.cell? ⟨b, off + j * 4 + 3, none⟩ = some (.slice sa x.ps.length sc)) ∧ w4.cell? ⟨b, off + (j - 1) * 4, none⟩ = some (intV y) from ⟨⟨(h4.cell (p := ⟨b, off + j * 4, none⟩) HBB.out).trans HD.out.1, (h4.cell (p := ⟨b, off + j * 4 + 1, none⟩) HBB.out).trans HD.out.2.1, (h4.cell (p := ⟨b, off + j * 4 + 2, none⟩) HBB.out).trans HD.out.2.2.1, (h4.cell (p := ⟨b, off + j * 4 + 3, none⟩) HBB.out).trans HD.out.2.2.2⟩, (h4.cell (p := ⟨b, off + (j - 1) * 4, none⟩) HBB.out).trans HDY.out.2⟩)
          clear h4
          refine hK _ _ ⟨fun _ => trivial, HD4.out, ?_⟩
          clear hK K
          (try simp only [Act.put, List.setIfInBounds_toArray, List.set_cons_zero, List.set_cons_succ])
          refine wpAnyK_takeD (i := 17) (v := intV r1) (some 6) rfl rfl (by kernel_rfl) (by kernel_rfl) (by kernel_rfl) (by decide) (fun _ _ _ h => h) (Or.inl ⟨by rfl, fun w' hw' => ?_⟩) (fun _ => trivial) (HD4.out) ?_
          · go_simp
          (try simp only [Act.put, List.setIfInBounds_toArray, List.set_cons_zero, List.set_cons_succ])
          refine wpAnyK_done (by kernel_rfl) ?_ _
          refine NoPanic.normal ?_
          by_cases z1 : r1 = 0
          · have y1 : (r1 != 0) = false := by simp [z1]
            have HZ1 := Lib.hid z1
            have HC2' := Lib.hid (HC2.out w4 HX4.out)
            have HX4D := Lib.hid (show w4.cell? ⟨b, off + j * 4 + 3, none⟩ = some (.slice sa x.ps.length sc) from HD4.out.1.2.2.2)
            have e4 := HX4D.out
            clear z1
            go_wp2_with fail
            refine HC2'.out.mono ?_
            rintro e' w6 ⟨rfl, h6⟩
            have HB6 := Lib.hid (below_then HB4.out h6)
            clear h6 e4
            by_cases z2 : r2 = 0
            · have y2 : (r2 != 0) = false := by simp [z2]
              have HS2 := Lib.hid (HST.out.2.2 HZ1.out z2)
              clear z2
              go_wp2
              go_roundw
              case rel => exact ⟨j + 1, by omega, by go_num, HS2, HB6.out⟩
              case measure => simp [intOf]; omega
            · have y2 : (r2 != 0) = true := by simpa using z2
              have HS2 := Lib.hid (HST.out.2.1 HZ1.out z2)
              clear z2
              go_wp2
              go_ret
              exact ⟨by rw [← HS2.out]; rfl, HB6.out⟩
          · have y1 : (r1 != 0) = true := by simpa using z1
            have HS1 := Lib.hid (HST.out.1 z1)
            clear z1
            go_wp2
            go_ret
            exact ⟨by rw [← HS1.out]; rfl, HB4.out⟩
        · have jq : decide ((0 : Int) < (j : Int)) = false := decide_eq_false (by omega)
          have hpf : pb = false := by rw [← HPB.out, show j = 0 by omega]; rfl
          clear HPV HT
          go_upto_region 4 with fail
          refine wp_region_noPanic ?_
          refine wp_region_any (by kernel_rfl) (wpAny_of_k (S := fun _ => True) (S' := fun W' => W'.cell? ⟨b, off + j * 4, none⟩ = some (intV x.kd) ∧ W'.cell? ⟨b, off + j * 4 + 1, none⟩ = some (sV x.tx) ∧ W'.cell? ⟨b, off + j * 4 + 2, none⟩ = some (intV x.nm) ∧ W'.cell? ⟨b, off + j * 4 + 3, none⟩ = some (.slice sa x.ps.length sc)) (k := 99) _ _ _ _ ?_)
          change wpAnyK _ _ _ _ _ _ _ 18 _ _ wk.drew
          refine wpAnyK_takeD (i := 0) (v := .slice (some ⟨b, off, none⟩) l.length c) (some 14) rfl rfl (by kernel_rfl) (by kernel_rfl) (by kernel_rfl) (by decide) (fun _ _ _ h => h) (Or.inl ⟨by rfl, fun w' hw' => ?_⟩) (fun _ => trivial) (HD.out) ?_
          · go_simp
          (try simp only [Act.put, List.setIfInBounds_toArray, List.set_cons_zero, List.set_cons_succ])
          refine wpAnyK_takeD (i := 1) (v := .int .i64 j) (some 15) rfl rfl (by kernel_rfl) (by kernel_rfl) (by kernel_rfl) (by decide) (fun _ _ _ h => h) (Or.inl ⟨by rfl, fun w' hw' => ?_⟩) (fun _ => trivial) (HD.out) ?_
          · go_simp
          (try simp only [Act.put, List.setIfInBounds_toArray, List.set_cons_zero, List.set_cons_succ])
          refine wpAnyK_takeD (i := 2) (v := .pointer (some ⟨b, off + j * 4, none⟩)) (some 16) rfl rfl (by kernel_rfl) (by kernel_rfl) (by kernel_rfl) (by decide) (fun _ _ _ h => h) (Or.inl ⟨by rfl, fun w' hw' => ?_⟩) (fun _ => trivial) (HD.out) ?_
          · go_simp
          (try simp only [Act.put, List.setIfInBounds_toArray, List.set_cons_zero, List.set_cons_succ])
          refine wpAnyK_takeD (i := 3) (v := .agg #[intV x.kd, sV x.tx, intV x.nm, .slice sa x.ps.length sc]) (some 17) rfl rfl (by kernel_rfl) (by kernel_rfl) (by kernel_rfl) (by decide) (fun _ _ _ h => h) (Or.inl ⟨by rfl, fun w' hw' => ?_⟩) (fun _ => trivial) (HD.out) ?_
          · obtain ⟨b0, b1, b2, b3⟩ := hw'; go_simp
          (try simp only [Act.put, List.setIfInBounds_toArray, List.set_cons_zero, List.set_cons_succ])
          refine wpAnyK_takeD (i := 4) (v := .int .i64 j) (some 18) rfl rfl (by kernel_rfl) (by kernel_rfl) (by kernel_rfl) (by decide) (fun _ _ _ h => h) (Or.inl ⟨by rfl, fun w' hw' => ?_⟩) (fun _ => trivial) (HD.out) ?_
          · go_simp
          (try simp only [Act.put, List.setIfInBounds_toArray, List.set_cons_zero, List.set_cons_succ])
          refine wpAnyK_takeD (i := 5) (v := .bool false) (some 19) rfl rfl (by kernel_rfl) (by kernel_rfl) (by kernel_rfl) (by decide) (fun _ _ _ h => h) (Or.inl ⟨by rfl, fun w' hw' => ?_⟩) (fun _ => trivial) (HD.out) ?_
          · go_simp
          (try simp only [Act.put, List.setIfInBounds_toArray, List.set_cons_zero, List.set_cons_succ])
          refine wpAnyK_takeD (i := 6) (v := .bool false) (some 20) rfl rfl (by kernel_rfl) (by kernel_rfl) (by kernel_rfl) (by decide) (fun _ _ _ h => h) (Or.inl ⟨by rfl, fun w' hw' => ?_⟩) (fun _ => trivial) (HD.out) ?_
          · go_simp
          (try simp only [Act.put, List.setIfInBounds_toArray, List.set_cons_zero, List.set_cons_succ])
          refine wpAnyK_takeD (i := 7) (v := undef) (some 21) rfl rfl (by kernel_rfl) (by kernel_rfl) (by kernel_rfl) (by decide) (fun _ _ _ h => h) (Or.inr ⟨by rfl, rfl⟩) (fun _ => trivial) (HD.out) ?_
          (try simp only [Act.put, List.setIfInBounds_toArray, List.set_cons_zero, List.set_cons_succ])
          refine wpAnyK_takeD (i := 8) (v := undef) (some 22) rfl rfl (by kernel_rfl) (by kernel_rfl) (by kernel_rfl) (by decide) (fun _ _ _ h => h) (Or.inr ⟨by rfl, rfl⟩) (fun _ => trivial) (HD.out) ?_
          (try simp only [Act.put, List.setIfInBounds_toArray, List.set_cons_zero, List.set_cons_succ])
          refine wpAnyK_takeD (i := 9) (v := undef) (some 23) rfl rfl (by kernel_rfl) (by kernel_rfl) (by kernel_rfl) (by decide) (fun _ _ _ h => h) (Or.inr ⟨by rfl, rfl⟩) (fun _ => trivial) (HD.out) ?_
          (try simp only [Act.put, List.setIfInBounds_toArray, List.set_cons_zero, List.set_cons_succ])
          refine wpAnyK_takeD (i := 10) (v := undef) (some 24) rfl rfl (by kernel_rfl) (by kernel_rfl) (by kernel_rfl) (by decide) (fun _ _ _ h => h) (Or.inr ⟨by rfl, rfl⟩) (fun _ => trivial) (HD.out) ?_
          (try simp only [Act.put, List.setIfInBounds_toArray, List.set_cons_zero, List.set_cons_succ])
          refine wpAnyK_takeD (i := 11) (v := undef) (some 25) rfl rfl (by kernel_rfl) (by kernel_rfl) (by kernel_rfl) (by decide) (fun _ _ _ h => h) (Or.inr ⟨by rfl, rfl⟩) (fun _ => trivial) (HD.out) ?_
          (try simp only [Act.put, List.setIfInBounds_toArray, List.set_cons_zero, List.set_cons_succ])
          refine wpAnyK_takeD (i := 12) (v := undef) (some 26) rfl rfl (by kernel_rfl) (by kernel_rfl) (by kernel_rfl) (by decide) (fun _ _ _ h => h) (Or.inr ⟨by rfl, rfl⟩) (fun _ => trivial) (HD.out) ?_
          (try simp only [Act.put, List.setIfInBounds_toArray, List.set_cons_zero, List.set_cons_succ])
          refine wpAnyK_takeD (i := 13) (v := undef) (some 27) rfl rfl (by kernel_rfl) (by kernel_rfl) (by kernel_rfl) (by decide) (fun _ _ _ h => h) (Or.inr ⟨by rfl, rfl⟩) (fun _ => trivial) (HD.out) ?_
          (try simp only [Act.put, List.setIfInBounds_toArray, List.set_cons_zero, List.set_cons_succ])
          refine wpAnyK_takeD (i := 14) (v := .bool false) (some 28) rfl rfl (by kernel_rfl) (by kernel_rfl) (by kernel_rfl) (by decide) (fun _ _ _ h => h) (Or.inl ⟨by rfl, fun w' hw' => ?_⟩) (fun _ => trivial) (HD.out) ?_
          · go_simp
          (try simp only [Act.put, List.setIfInBounds_toArray, List.set_cons_zero, List.set_cons_succ])
          refine wpAnyK_takeD (i := 15) (v := .bool wi) (some 29) rfl rfl (by kernel_rfl) (by kernel_rfl) (by kernel_rfl) (by decide) (fun _ _ _ h => h) (Or.inl ⟨by rfl, fun w' hw' => ?_⟩) (fun _ => trivial) (HD.out) ?_
          · go_simp
          (try simp only [Act.put, List.setIfInBounds_toArray, List.set_cons_zero, List.set_cons_succ])
          rw [hpf] at HC1
          refine wpAnyK_all (rs := [16]) (by kernel_rfl) (by simp) ?_
          intro i' hi'
          obtain rfl := List.mem_singleton.1 hi'
          clear hi'
          refine wpOp_step rfl fun K hK => ?_
          go_simp
          go_at_call 84
          refine (HC1.out _).mono ?_
          rintro e' w4 ⟨rfl, h4⟩
          have HB4 := Lib.hid (below_then (HB.out.trans (below_drew1S (N := w.heap.size) wk)) h4)
          have HX4 := Lib.hid (HX.out.below (below_then (below_drew1S (N := wk.heap.size) wk) h4))
          have HD4 := Lib.hid (show w4.cell? ⟨b, off + j * 4, none⟩ = some (intV x.kd) ∧ w4.cell? ⟨b, off + j * 4 + 1, none⟩ = some (sV x.tx) ∧ w4.cell? ⟨b, off + j * 4 + 2, none⟩ = some (intV x.nm) ∧ w4.cell? ⟨b, off + j * 4 + 3, none⟩ = some (.slice sa x.ps.length sc) from ⟨(h4.cell (p := ⟨b, off + j * 4, none⟩) HBB.out).trans HD.out.1, (h4.cell (p := ⟨b, off + j * 4 + 1, none⟩) HBB.out).trans HD.out.2.1, (h4.cell (p := ⟨b, off + j * 4 + 2, none⟩) HBB.out).trans HD.out.2.2.1, (h4.cell (p := ⟨b, off + j * 4 + 3, none⟩) HBB.out).trans HD.out.2.2.2⟩)
          clear h4
          refine hK _ _ ⟨fun _ => trivial, HD4.out, ?_⟩
          clear hK K
          (try simp only [Act.put, List.setIfInBounds_toArray, List.set_cons_zero, List.set_cons_succ])
          refine wpAnyK_takeD (i := 17) (v := intV r1) (some 6) rfl rfl (by kernel_rfl) (by kernel_rfl) (by kernel_rfl) (by decide) (fun _ _ _ h => h) (Or.inl ⟨by rfl, fun w' hw' => ?_⟩) (fun _ => trivial) (HD4.out) ?_
          · go_simp
          (try simp only [Act.put, List.setIfInBounds_toArray, List.set_cons_zero, List.set_cons_succ])
          refine wpAnyK_done (by kernel_rfl) ?_ _
          refine NoPanic.normal ?_
          by_cases z1 : r1 = 0
          · have y1 : (r1 != 0) = false := by simp [z1]
            have HZ1 := Lib.hid z1
            have HC2' := Lib.hid (HC2.out w4 HX4.out)
            have HX4D := Lib.hid (show w4.cell? ⟨b, off + j * 4 + 3, none⟩ = some (.slice sa x.ps.length sc) from HD4.out.2.2.2)
            have e4 := HX4D.out
            clear z1
            go_wp2_with fail
            refine HC2'.out.mono ?_
            rintro e' w6 ⟨rfl, h6⟩
            have HB6 := Lib.hid (below_then HB4.out h6)
            clear h6 e4
            by_cases z2 : r2 = 0
            · have y2 : (r2 != 0) = false := by simp [z2]
              have HS2 := Lib.hid (HST.out.2.2 HZ1.out z2)
              clear z2
              go_wp2
              go_roundw
              case rel => exact ⟨j + 1, by omega, by go_num, HS2, HB6.out⟩
              case measure => simp [intOf]; omega
            · have y2 : (r2 != 0) = true := by simpa using z2
              have HS2 := Lib.hid (HST.out.2.1 HZ1.out z2)
              clear z2
              go_wp2
              go_ret
              exact ⟨by rw [← HS2.out]; rfl, HB6.out⟩
          · have y1 : (r1 != 0) = true := by simpa using z1
            have HS1 := Lib.hid (HST.out.1 z1)
            clear z1
            go_wp2
            go_ret
            exact ⟨by rw [← HS1.out]; rfl, HB4.out⟩
      · have HZ := Lib.hid (show (0 : Int) = r by rw [← HT.out, List.drop_of_length_le (by omega), allL])
        clear hB
        go_wp2
        go_ret
        exact ⟨by rw [HZ.out]; rfl, HB.out⟩
end Go.Proofs.YtmfcepfagbkceaaGreatDoor
namespace Go.Proofs.YtmfcepfagbkceaaGreatDoor
set_option linter.unusedSimpArgs false
set_option linter.unusedVariables false
set_option maxRecDepth 100000
open Go.RowKit Go.Shelf Go.Deep
theorem refName_2 (w : World) : Calls Tryz.prog 77 #[intV 2] w fun e w' => e = .returned (sV (nmK 2)) ∧ Below w.heap.size w w' := by
  go_enter Tryz.func77, Tryz.ntmps77
  go_wp2
  go_ret
  exact ⟨rfl, below_alloc _ _⟩
theorem refName_3 (w : World) : Calls Tryz.prog 77 #[intV 3] w fun e w' => e = .returned (sV (nmK 3)) ∧ Below w.heap.size w w' := by
  go_enter Tryz.func77, Tryz.ntmps77
  go_wp2
  go_ret
  exact ⟨rfl, below_alloc _ _⟩
theorem refName_4 (w : World) : Calls Tryz.prog 77 #[intV 4] w fun e w' => e = .returned (sV (nmK 4)) ∧ Below w.heap.size w w' := by
  go_enter Tryz.func77, Tryz.ntmps77
  go_wp2
  go_ret
  exact ⟨rfl, below_alloc _ _⟩
theorem refName_5 (w : World) : Calls Tryz.prog 77 #[intV 5] w fun e w' => e = .returned (sV (nmK 5)) ∧ Below w.heap.size w w' := by
  go_enter Tryz.func77, Tryz.ntmps77
  go_wp2
  go_ret
  exact ⟨rfl, below_alloc _ _⟩
theorem refName_6 (w : World) : Calls Tryz.prog 77 #[intV 6] w fun e w' => e = .returned (sV (nmK 6)) ∧ Below w.heap.size w w' := by
  go_enter Tryz.func77, Tryz.ntmps77
  go_wp2
  go_ret
  exact ⟨rfl, below_alloc _ _⟩
theorem refName_7 (w : World) : Calls Tryz.prog 77 #[intV 7] w fun e w' => e = .returned (sV (nmK 7)) ∧ Below w.heap.size w w' := by
  go_enter Tryz.func77, Tryz.ntmps77
  go_wp2
  go_ret
  exact ⟨rfl, below_alloc _ _⟩
theorem refName_8 (w : World) : Calls Tryz.prog 77 #[intV 8] w fun e w' => e = .returned (sV (nmK 8)) ∧ Below w.heap.size w w' := by
  go_enter Tryz.func77, Tryz.ntmps77
  go_wp2
  go_ret
  exact ⟨rfl, below_alloc _ _⟩
theorem refName_9 (w : World) : Calls Tryz.prog 77 #[intV 9] w fun e w' => e = .returned (sV (nmK 9)) ∧ Below w.heap.size w w' := by
  go_enter Tryz.func77, Tryz.ntmps77
  go_wp2
  go_ret
  exact ⟨rfl, below_alloc _ _⟩
theorem refName_10 (w : World) : Calls Tryz.prog 77 #[intV 10] w fun e w' => e = .returned (sV (nmK 10)) ∧ Below w.heap.size w w' := by
  go_enter Tryz.func77, Tryz.ntmps77
  go_wp2
  go_ret
  exact ⟨rfl, below_alloc _ _⟩
theorem refName_11 (w : World) : Calls Tryz.prog 77 #[intV 11] w fun e w' => e = .returned (sV (nmK 11)) ∧ Below w.heap.size w w' := by
  go_enter Tryz.func77, Tryz.ntmps77
  go_wp2
  go_ret
  exact ⟨rfl, below_alloc _ _⟩
theorem refName10_any (k : Int) (h : 2 ≤ k ∧ k ≤ 11) (w : World) : Calls Tryz.prog 77 #[intV k] w fun e w' => e = .returned (sV (nmK k)) ∧ Below w.heap.size w w' := by
  have hk : k = 2 ∨ k = 3 ∨ k = 4 ∨ k = 5 ∨ k = 6 ∨ k = 7 ∨ k = 8 ∨ k = 9 ∨ k = 10 ∨ k = 11 := by omega
  rcases hk with rfl | rfl | rfl | rfl | rfl | rfl | rfl | rfl | rfl | rfl
  · exact refName_2 w
  · exact refName_3 w
  · exact refName_4 w
  · exact refName_5 w
  · exact refName_6 w
  · exact refName_7 w
  · exact refName_8 w
  · exact refName_9 w
  · exact refName_10 w
  · exact refName_11 w
theorem itoa_ne {n : Int} (h1 : 1 ≤ n) (h2 : n ≤ 99) : Lib.itoa n ≠ [] := by
  rw [itoa_digs h1 h2]
  unfold digs
  split <;> simp
theorem bef_is {k : Int} {t : Bs} {n : Int} {p : List Nd} {e b w : Bool} (h : Fine k t n e b w) (hk : k ≠ 1) :
    (partsK k = false → befN (.mk k t n p) = 60 :: nmK k ++ (if textsK k then 32 :: t else []) ++ (if numsK k then 32 :: Lib.itoa n else []) ++ [47, 62] ∧ behN (.mk k t n p) = []) ∧
    (partsK k = true → befN (.mk k t n p) = 60 :: nmK k ++ (if textsK k then 32 :: t else []) ++ (if numsK k then 32 :: Lib.itoa n else []) ++ [62] ∧ behN (.mk k t n p) = [60, 47] ++ nmK k ++ [62]) := by
  have hp : ∀ x : Lx, prn [x] = form x := fun x => by simp [prn]
  have h1 : (Nd.mk k t n p).kd = k := rfl
  have h2 : (Nd.mk k t n p).tx = t := rfl
  have h3 : (Nd.mk k t n p).nm = n := rfl
  have hv : bodyL (nmK k) (valX k t n) = nmK k ++ (if textsK k then 32 :: t else []) ++ (if numsK k then 32 :: Lib.itoa n else []) := by
    have hnm : nameB t = true → t ≠ [] := fun h e => by subst e; exact absurd h (by decide)
    have hwd : wordB t = true → t ≠ [] := fun h e => by subst e; exact absurd h (by decide)
    unfold bodyL valX
    rcases h with h | ⟨rfl | rfl, rfl, rfl, _⟩ | ⟨rfl | ⟨rfl, _⟩, h, rfl, _⟩ | ⟨rfl, rfl, h1, h2, _⟩ | ⟨rfl, rfl, rfl, _⟩ | ⟨rfl | rfl, rfl, h1, h2, _⟩ | ⟨rfl, h, rfl, _⟩ | ⟨rfl, h, rfl, _⟩
    · exact absurd h.1 hk
    · simp [textsK, numsK]
    · simp [textsK, numsK]
    · simp [textsK, numsK, hnm h]
    · simp [textsK, numsK, hnm h]
    · simp [textsK, numsK, itoa_ne h1 (by omega)]
    · simp [textsK, numsK]
    · simp [textsK, numsK, itoa_ne h1 (by omega)]
    · simp [textsK, numsK, itoa_ne h1 (by omega)]
    · simp [textsK, numsK, hwd h]
    · simp [textsK, numsK, hnm h]
  unfold befN behN
  rw [h1, h2, h3, if_neg hk, hp, hp, hp]
  unfold form formF
  simp only [hv]
  constructor
  · intro hpk
    simp [hpk, hk]
  · intro hpk
    simp [hpk, hk]
theorem val_lenB {k : Int} {t : Bs} {n : Int} {e b w : Bool} (h : Fine k t n e b w) (ht : t.length ≤ 65536) : (valX k t n).length ≤ 65536 := by
  unfold valX
  split
  · exact ht
  · rename_i h1
    split
    · rename_i h2
      have hn : 1 ≤ n ∧ n ≤ 99 := by
        unfold numsK at h2
        simp at h2
        rcases h with h | h | h | h | h | h | h | h <;> omega
      rw [itoa_digs hn.1 hn.2]
      have := digs_len n.toNat
      omega
    · simp
theorem bef_lenB {x : Nd} {b w : Bool} (h : Fine x.kd x.tx x.nm x.ps.isEmpty b w) : (befN x).length + (behN x).length ≤ 70000 := by
  have ht := fine_len h
  have h1 := nmK_len x.kd
  have h2 := val_lenB h ht
  have f2 := form_len ⟨2, nmK x.kd, valX x.kd x.tx x.nm, 0⟩
  have f3 := form_len ⟨3, nmK x.kd, [], 0⟩
  have f4 := form_len ⟨4, nmK x.kd, valX x.kd x.tx x.nm, 0⟩
  simp only [List.length_nil] at f3 f2 f4
  unfold befN behN
  have hp : ∀ x : Lx, prn [x] = form x := fun x => by simp [prn]
  rw [hp, hp, hp]
  split
  · simp; omega
  · split
    · omega
    · simp; omega
theorem out_big {b w : Bool} {l : List Nd} (h : allL b w l = 0) : (outL l).length ≤ 70000 * tots l := by
  rw [← lenP_out.2 l 0 b w h]
  have := lenP_le 70000 (preL 0 l) fun p hp => bef_lenB (alone_fine (pre_fine.2 l 0 b w h p hp))
  rwa [pre_len.2] at this
theorem print_step {l : List Nd} {j : Nat} (h : j < l.length) {b w : Bool} (ha : allL b w (l.drop j) = 0) {s : Bs} (hs : outL l = s ++ outL (l.drop j)) {x : Nd} (hx : l[j] = x) :
    Fine x.kd x.tx x.nm x.ps.isEmpty b w ∧ allL false true x.ps = 0 ∧ (∃ b', allL b' w (l.drop (j + 1)) = 0) ∧ outL l = s ++ (befN x ++ (outL x.ps ++ behN x)) ++ outL (l.drop (j + 1)) := by
  rw [List.drop_eq_getElem_cons h, hx] at ha hs
  obtain ⟨h1, h2⟩ := allL_cons ha
  have h3 : Fine x.kd x.tx x.nm x.ps.isEmpty b w ∧ allL false true x.ps = 0 := by
    obtain ⟨k, t, n, p⟩ := x
    exact allN_zero h1
  refine ⟨h3.1, h3.2, ⟨_, h2⟩, ?_⟩
  rw [hs, out_cons h1]
  simp only [List.append_assoc]
end Go.Proofs.YtmfcepfagbkceaaGreatDoor
