/- The reference's matches. Written by tools/gen_glmatch.py. -/
import Derived.Test.YtjjdihkjkmhjnaaGlStands
import Derived.Test.YtjjdihkjkmhjnaaGlHold
import Derived.Deep.OwnRows
import Derived.StillTailTactics
import Derived.Deep.Cut
import Derived.Laws.EntriesVeiled
namespace Go.Proofs.Ytjjdihkjkmhjnaa
set_option linter.unusedSimpArgs false
set_option linter.unusedVariables false
set_option maxRecDepth 100000
open Go.RowKit Go.Deep

/-- a block whose first n cells are known -/
def RowN (W : World) (g : Nat) (t : TypeId) (n : Nat) (f : Nat → Value) : Prop := ∃ cap F, W.rowIs g t cap F ∧ n ≤ cap ∧ ∀ j, j < n → F j = f j
theorem RowN.cell {W : World} {g n j : Nat} {t : TypeId} {f : Nat → Value} (h : RowN W g t n f) (hj : j < n) : W.cell? ⟨g, j, none⟩ = some (f j) := by
  obtain ⟨cap, F, h1, h2, h3⟩ := h
  rw [← h3 j hj]; exact h1.cell (by omega)
theorem RowN.frozen {W : World} {g n : Nat} {t : TypeId} {f : Nat → Value} (h : RowN W g t n f) (j : Nat) : W.frozen? ⟨g, j, none⟩ = false := by
  obtain ⟨cap, F, h1, _⟩ := h
  exact h1.frozen j
theorem RowN.lt {W : World} {g n : Nat} {t : TypeId} {f : Nat → Value} (h : RowN W g t n f) : g < W.heap.size := by
  obtain ⟨cap, F, h1, _⟩ := h
  exact h1.lt
theorem RowN.set {W : World} {g n : Nat} {t : TypeId} {f : Nat → Value} (h : RowN W g t n f) (i : Nat) (v : Value) : RowN (W.setCell ⟨g, i, none⟩ v) g t n fun j => if j = i then v else f j := by
  obtain ⟨cap, F, h1, h2, h3⟩ := h
  exact ⟨cap, _, h1.set i v, h2, fun j hj => by rw [h3 j hj]⟩
theorem RowN.congr {W : World} {g n : Nat} {t : TypeId} {f f' : Nat → Value} (h : RowN W g t n f) (e : ∀ j, j < n → f j = f' j) : RowN W g t n f' := by
  obtain ⟨cap, F, h1, h2, h3⟩ := h
  exact ⟨cap, F, h1, h2, fun j hj => (h3 j hj).trans (e j hj)⟩
theorem RowN.of_block {W W' : World} {g n : Nat} {t : TypeId} {f : Nat → Value} (h : RowN W g t n f) (e : W'.heap[g]? = W.heap[g]?) : RowN W' g t n f := by
  obtain ⟨cap, F, h1, h2⟩ := h
  exact ⟨cap, F, h1.of_block e, h2⟩
theorem RowN.alloc {W : World} {g n : Nat} {t : TypeId} {f : Nat → Value} (h : RowN W g t n f) (o : Obj) : RowN (W.alloc o) g t n f := h.of_block (Below.heap_alloc _ _ _ h.lt)
theorem RowN.drewN {W : World} {g n : Nat} {t : TypeId} {f : Nat → Value} (h : RowN W g t n f) (m : Nat) : RowN (W.drewN m) g t n f := h.of_block rfl
theorem RowN.below {W W' : World} {g n : Nat} {t : TypeId} {f : Nat → Value} (h : RowN W g t n f) (hB : Below W.heap.size W W') : RowN W' g t n f := h.of_block (hB.block _ h.lt)
theorem RowN.of_row {W : World} {g n : Nat} {t : TypeId} {f : Nat → Value} (h : W.rowIs g t n f) : RowN W g t n f := ⟨n, f, h, Nat.le_refl _, fun _ _ => rfl⟩

theorem info_bool : (Try.prog.info? 4).map (fun i => (i.zero, i.size, i.bytes)) = some (some (.bool false), 1, 1) := by kernel_rfl
/-- whether the first k elements stand for the first i bytes -/
abbrev pv (l : List El) (t : List UInt8) (k : Nat) : Nat → Value := fun i => .bool (matB (l.take k) (t.take i))
/-- .. reckoned for the first j places -/
abbrev pvTo (l : List El) (t : List UInt8) (k j : Nat) : Nat → Value := fun i => if i < j then pv l t k i else .bool false
theorem pvTo_set {l : List El} {t : List UInt8} {k j : Nat} {b : Bool} (hb : matB (l.take k) (t.take j) = b) (i : Nat) : (if i = j then Value.bool b else pvTo l t k j i) = pvTo l t k (j + 1) i := by
  show (if i = j then Value.bool b else if i < j then pv l t k i else .bool false) = if i < j + 1 then pv l t k i else .bool false
  by_cases h : i = j
  · subst h; rw [if_pos rfl, if_pos (by omega)]; show _ = Value.bool _; rw [hb]
  · rw [if_neg h]
    by_cases h2 : i < j
    · rw [if_pos h2, if_pos (by omega)]
    · rw [if_neg h2, if_neg (by omega)]
theorem pv_zero {l : List El} {t : List UInt8} (i : Nat) (hi : i < t.length + 1) : (if i = 0 then Value.bool true else .bool false) = pv l t 0 i := by
  show _ = Value.bool (matB (l.take 0) (t.take i))
  rw [List.take_zero, matB]
  cases i with
  | zero => simp
  | succ i =>
    rw [if_neg (by omega)]
    cases t with
    | nil => simp at hi
    | cons c t => simp
set_option maxHeartbeats 8000000 in
theorem refMatches_at (l : List El) (s : ByteArray) (v : Value) (w : World) (hv : ElsAt w v l) (hok : oks l) (hs : s.size ≤ 64) (hx : ∀ x ∈ l, x.txt.length ≤ 64) (hl : l.length ≤ 64) (r : Bool) (hr : matB l s.data.toList = r) :
    Calls Try.prog 47 #[v, .string s] w fun e w' => e = .returned (.bool r) ∧ Below w.heap.size w w' := by
  have HV := Lib.hid hv
  have HOK := Lib.hid hok
  have HX := Lib.hid hx
  have HR := Lib.hid hr
  obtain ⟨va, vc, rfl⟩ := hv.slice
  have hmk := run_make_row' (P := Try.prog) 93 4 (.bool false) 1 rfl info_bool rfl
  have hmk1 : ∀ W : World, (Instr.makeSlice 93 (.int .i64 ((s.size : Int) + 1)) (.int .i64 ((s.size : Int) + 1))).run Try.prog W = .ok (.slice (some ⟨W.heap.size, 0, none⟩) (s.size + 1) (s.size + 1)) (W.alloc (.cells (madeCells #[.bool false] (s.size + 1)) 4)) := fun W => hmk .i64 .i64 (s.size + 1) (by omega) (by omega) W
  have hrow := RowN.of_row (World.rowIs_made w (.bool false) (s.size + 1) 4)
  obtain ⟨R, hR⟩ : ∃ R, w.heap.size = R := ⟨_, rfl⟩
  obtain ⟨wa, hwa⟩ : ∃ x, w.alloc (.cells (madeCells #[.bool false] (s.size + 1)) 4) = x := ⟨_, rfl⟩
  have hBa : Below w.heap.size w wa := by rw [← hwa]; exact below_box0 w _
  rw [hwa, hR] at hrow
  have hc := hrow.cell (j := 0) (by omega)
  have hf := hrow.frozen 0
  have HROW := Lib.hid (hrow.set 0 (.bool true))
  have HBR := Lib.hid (hBa.setCell (p := ⟨R, 0, none⟩) (Nat.le_of_eq hR) (.bool true))
  have HRR := Lib.hid hR
  clear hv hok hx hr hmk hrow hBa
  go_enter Try.func47, Try.ntmps47
  go_wp2_with fail
  obtain ⟨w0, hw0⟩ : ∃ x, wa.setCell ⟨R, 0, none⟩ (.bool true) = x := ⟨_, rfl⟩
  rw [hw0] at HROW HBR ⊢
  have HROW0 := Lib.hid (HROW.out.congr (f' := pv l s.data.toList 0) fun j hj => pv_zero j (by rw [size_list]; exact hj))
  clear hw0 HROW hc hf hwa hR
  go_loopw [5, 6] (fun v5 v6 wr => ∃ (k E : Nat), k ≤ l.length ∧ v6 = .int .i64 k ∧ v5 = .slice (some ⟨E, 0, none⟩) (s.size + 1) (s.size + 1) ∧ w.heap.size ≤ E ∧ Below w.heap.size w wr ∧ RowN wr E 4 (s.size + 1) (pv l s.data.toList k)) (fun _ v6 _ => l.length - (intOf v6).toNat)
  case atStart => exact ⟨0, R, Nat.zero_le _, rfl, rfl, Nat.le_of_eq HRR.out, HBR.out, HROW0.out⟩
  case round =>
    obtain ⟨k, E, hk, rfl, rfl, hE, hB, hrowE⟩ := hrel
    obtain ⟨wk, rfl⟩ : ∃ x, x = wr := ⟨_, rfl⟩
    have HB := Lib.hid hB
    have HRE := Lib.hid hrowE
    clear hB
    by_cases hlt : k < l.length
    · obtain ⟨R2, hR2⟩ : ∃ R2, wk.heap.size = R2 := ⟨_, rfl⟩
      obtain ⟨wa2, hwa2⟩ : ∃ x, wk.alloc (.cells (madeCells #[.bool false] (s.size + 1)) 4) = x := ⟨_, rfl⟩
      have hrow2 := RowN.of_row (World.rowIs_made wk (.bool false) (s.size + 1) 4)
      have hb2 : Below wk.heap.size wk wa2 := by rw [← hwa2]; exact below_box0 wk _
      rw [hwa2, hR2] at hrow2
      have HR2 := Lib.hid hrow2
      have HE2 := Lib.hid (hrowE.below hb2)
      have HB2 := Lib.hid (below_seq HB.out hb2 HB.out.size)
      have hER : E ≠ R2 := by have := hrowE.lt; omega
      have hRE : R2 ≠ E := fun e => hER e.symm
      have hwR : w.heap.size ≤ R2 := by have := HB.out.size; omega
      have HWA2 := Lib.hid hwa2
      have hR2' := Lib.hid hR2
      clear hwa2 hrow2 hb2 hrowE hR2
      go_upto_region 7 with fail
      rw [HWA2.out, hR2'.out]
      go_wp2_with fail
      go_loopw [8] (fun v8 wr => ∃ j : Nat, j ≤ s.size + 1 ∧ v8 = .int .i64 j ∧ Below w.heap.size w wr ∧ RowN wr E 4 (s.size + 1) (pv l s.data.toList k) ∧ RowN wr R2 4 (s.size + 1) (pvTo l s.data.toList (k + 1) j)) (fun v8 _ => s.size + 1 - (intOf v8).toNat)
      case atStart => exact ⟨0, Nat.zero_le _, rfl, HB2.out, HE2.out, HR2.out.congr fun i _ => (if_neg (Nat.not_lt_zero i)).symm⟩
      case round =>
        obtain ⟨j, hj, rfl, hB, hrE, hrN⟩ := hrel
        obtain ⟨wj, rfl⟩ : ∃ x, x = wr := ⟨_, rfl⟩
        by_cases hjs : j < s.size + 1
        · obtain ⟨b, off, rfl, hbb, hcl⟩ := (HV.out.below hB).get hlt
          obtain ⟨x, hxe⟩ : ∃ x, l[k] = x := ⟨_, rfl⟩
          rw [hxe] at hcl
          have hxm : x ∈ l := by rw [← hxe]; exact List.getElem_mem hlt
          have htk : l.take (k + 1) = l.take k ++ [x] := by rw [← hxe]; exact List.take_succ_eq_append_getElem hlt
          have hcE := hrE.cell hjs
          have hcN := hrN.cell hjs
          have hfN := hrN.frozen j
          have hjs' : (j : Int) ≤ s.size := by omega
          have hj0 : (0 : Int) ≤ j := by omega
          have HBJ := Lib.hid hB
          have HEJ := Lib.hid hrE
          have HNJ := Lib.hid hrN
          have HTK := Lib.hid htk
          obtain ⟨nb, hnb⟩ : ∃ nb, matB (l.take (k + 1)) (s.data.toList.take j) = nb := ⟨_, rfl⟩
          have HNB := Lib.hid hnb
          obtain ⟨eb, heb⟩ : ∃ eb, matB (l.take k) (s.data.toList.take j) = eb := ⟨_, rfl⟩
          have HEB := Lib.hid heb
          have hcE' : wj.cell? ⟨E, j, none⟩ = some (.bool eb) := by rw [hcE]; show some (Value.bool _) = _; rw [heb]
          clear hB hrE hxe htk hnb heb hcE
          by_cases hS : x.isS = true
          · obtain rfl := El.isS_iff.1 hS
            have hq : ((elB .star).toList == [42]) = true := by rw [ByteArray.toList_eq, elB_list]; rfl
            have HM := Lib.hid (matB_star (l.take k) s.data.toList j (by rw [size_list]; omega))
            rw [← HTK.out, HNB.out, HEB.out] at HM
            cases eb with
            | true =>
              obtain rfl : nb = true := HM.out
              go_wp2_with fail
              refine ⟨⟨j + 1, by omega, by go_num, HBJ.out.setCell (p := ⟨R2, j, none⟩) hwR _, HEJ.out.of_block (Below.heap_setCell _ _ _ _ hER), (HNJ.out.set (j) (.bool true)).congr fun i _ => pvTo_set HNB.out i⟩, ?_⟩
              simp [intOf]; omega
            | false =>
              rw [Bool.false_or] at HM
              rcases Nat.eq_zero_or_pos j with rfl | hjp
              · obtain rfl : nb = false := HM.out
                go_wp2_with fail
                refine ⟨⟨0 + 1, by omega, by go_num, HBJ.out.setCell (p := ⟨R2, 0, none⟩) hwR _, HEJ.out.of_block (Below.heap_setCell _ _ _ _ hER), (HNJ.out.set (0) (.bool false)).congr fun i _ => pvTo_set HNB.out i⟩, ?_⟩
                simp [intOf] <;> omega
              · obtain ⟨i, rfl⟩ : ∃ i, j = i + 1 := ⟨j - 1, by omega⟩
                have hm := HM.out
                rw [decide_eq_true hjp, Bool.true_and, Nat.add_sub_cancel] at hm
                have hcP := HNJ.out.cell (j := i) (by omega)
                have hcP' : wj.cell? ⟨R2, i, none⟩ = some (.bool nb) := by
                  rw [hcP, hm]
                  show some (if i < i + 1 then pv l s.data.toList (k + 1) i else _) = _
                  rw [if_pos (by omega)]
                have hi0 : (0 : Int) ≤ i := by omega
                have hi1 : (i : Int) < s.size + 1 := by omega
                have hgp : decide ((0 : Int) < ((i + 1 : Nat) : Int)) = true := decide_eq_true (by omega)
                clear hcP hm
                go_wp2_with fail
                refine ⟨⟨i + 1 + 1, by omega, by go_num, HBJ.out.setCell (p := ⟨R2, i + 1, none⟩) hwR _, HEJ.out.of_block (Below.heap_setCell _ _ _ _ hER), (HNJ.out.set (i + 1) (.bool nb)).congr fun i _ => pvTo_set HNB.out i⟩, ?_⟩
                simp [intOf] <;> omega
          · have hS' : x.isS = false := by simpa using hS
            have hq : ((elB x).toList == [42]) = false := by
              rw [ByteArray.toList_eq, elB_list]
              have hok := HOK.out x hxm
              cases x with
              | star => cases hS'
              | any => rfl
              | one a => have := (ok_one hok).2.2; show ([a] == [42]) = false; simpa using this
              | cls cs => show ((91 :: (cs ++ [93])) == [42]) = false; simp
            rcases Nat.eq_zero_or_pos j with rfl | hjp
            · have hz : nb = false := by rw [← HNB.out, HTK.out, List.take_zero, matB_zero hS']
              subst hz
              have HS0 := Lib.hid (show True ∧ True from ⟨trivial, trivial⟩)
              go_wp2_with fail
              refine wp_region_noPanic ?_
              refine wp_region_any (by kernel_rfl) (wpAny_of_k (S := fun w' => True ∧ True) (S' := fun _ => True) (k := 23) _ _ _ _ ?_)
              change wpAnyK _ _ _ _ _ _ _ 24 _ _ wj.drew
              refine wpAnyK_takeD (i := 0) (v := .slice (some ⟨R2, 0, none⟩) (s.size + 1) (s.size + 1)) (some 54) rfl rfl (by kernel_rfl) (by kernel_rfl) (by kernel_rfl) (by decide) (fun _ _ _ h => h) (Or.inl ⟨by rfl, fun w' hw' => ?_⟩) (fun _ => HS0.out) trivial ?_
              · go_simp
              (try simp only [Act.put, List.setIfInBounds_toArray, List.set_cons_zero, List.set_cons_succ])
              refine wpAnyK_takeD (i := 1) (v := .int .i64 0) (some 55) rfl rfl (by kernel_rfl) (by kernel_rfl) (by kernel_rfl) (by decide) (fun _ _ _ h => h) (Or.inl ⟨by rfl, fun w' hw' => ?_⟩) (fun _ => HS0.out) trivial ?_
              · go_simp
              (try simp only [Act.put, List.setIfInBounds_toArray, List.set_cons_zero, List.set_cons_succ])
              refine wpAnyK_takeD (i := 2) (v := .int .i64 0) (some 56) rfl rfl (by kernel_rfl) (by kernel_rfl) (by kernel_rfl) (by decide) (fun _ _ _ h => h) (Or.inl ⟨by rfl, fun w' hw' => ?_⟩) (fun _ => HS0.out) trivial ?_
              · go_simp
              (try simp only [Act.put, List.setIfInBounds_toArray, List.set_cons_zero, List.set_cons_succ])
              refine wpAnyK_takeD (i := 3) (v := .bool false) (some 57) rfl rfl (by kernel_rfl) (by kernel_rfl) (by kernel_rfl) (by decide) (fun _ _ _ h => h) (Or.inl ⟨by rfl, fun w' hw' => ?_⟩) (fun _ => HS0.out) trivial ?_
              · go_simp
              (try simp only [Act.put, List.setIfInBounds_toArray, List.set_cons_zero, List.set_cons_succ])
              refine wpAnyK_takeD (i := 4) (v := .bool false) (some 58) rfl rfl (by kernel_rfl) (by kernel_rfl) (by kernel_rfl) (by decide) (fun _ _ _ h => h) (Or.inl ⟨by rfl, fun w' hw' => ?_⟩) (fun _ => HS0.out) trivial ?_
              · go_simp
              (try simp only [Act.put, List.setIfInBounds_toArray, List.set_cons_zero, List.set_cons_succ])
              refine wpAnyK_takeD (i := 5) (v := undef) (some 59) rfl rfl (by kernel_rfl) (by kernel_rfl) (by kernel_rfl) (by decide) (fun _ _ _ h => h) (Or.inr ⟨by rfl, rfl⟩) (fun _ => HS0.out) trivial ?_
              (try simp only [Act.put, List.setIfInBounds_toArray, List.set_cons_zero, List.set_cons_succ])
              refine wpAnyK_takeD (i := 6) (v := undef) (some 60) rfl rfl (by kernel_rfl) (by kernel_rfl) (by kernel_rfl) (by decide) (fun _ _ _ h => h) (Or.inr ⟨by rfl, rfl⟩) (fun _ => HS0.out) trivial ?_
              (try simp only [Act.put, List.setIfInBounds_toArray, List.set_cons_zero, List.set_cons_succ])
              refine wpAnyK_takeD (i := 7) (v := undef) (some 61) rfl rfl (by kernel_rfl) (by kernel_rfl) (by kernel_rfl) (by decide) (fun _ _ _ h => h) (Or.inr ⟨by rfl, rfl⟩) (fun _ => HS0.out) trivial ?_
              (try simp only [Act.put, List.setIfInBounds_toArray, List.set_cons_zero, List.set_cons_succ])
              refine wpAnyK_takeD (i := 8) (v := undef) (some 62) rfl rfl (by kernel_rfl) (by kernel_rfl) (by kernel_rfl) (by decide) (fun _ _ _ h => h) (Or.inr ⟨by rfl, rfl⟩) (fun _ => HS0.out) trivial ?_
              (try simp only [Act.put, List.setIfInBounds_toArray, List.set_cons_zero, List.set_cons_succ])
              refine wpAnyK_takeD (i := 9) (v := undef) (some 63) rfl rfl (by kernel_rfl) (by kernel_rfl) (by kernel_rfl) (by decide) (fun _ _ _ h => h) (Or.inr ⟨by rfl, rfl⟩) (fun _ => HS0.out) trivial ?_
              (try simp only [Act.put, List.setIfInBounds_toArray, List.set_cons_zero, List.set_cons_succ])
              refine wpAnyK_takeD (i := 10) (v := .bool false) (some 64) rfl rfl (by kernel_rfl) (by kernel_rfl) (by kernel_rfl) (by decide) (fun _ _ _ h => h) (Or.inl ⟨by rfl, fun w' hw' => ?_⟩) (fun _ => HS0.out) trivial ?_
              · go_simp
              (try simp only [Act.put, List.setIfInBounds_toArray, List.set_cons_zero, List.set_cons_succ])
              refine wpAnyK_takeD (i := 11) (v := .bool false) (some 65) rfl rfl (by kernel_rfl) (by kernel_rfl) (by kernel_rfl) (by decide) (fun _ _ _ h => h) (Or.inl ⟨by rfl, fun w' hw' => ?_⟩) (fun _ => HS0.out) trivial ?_
              · go_simp
              (try simp only [Act.put, List.setIfInBounds_toArray, List.set_cons_zero, List.set_cons_succ])
              refine wpAnyK_takeD (i := 12) (v := undef) (some 66) rfl rfl (by kernel_rfl) (by kernel_rfl) (by kernel_rfl) (by decide) (fun _ _ _ h => h) (Or.inr ⟨by rfl, rfl⟩) (fun _ => HS0.out) trivial ?_
              (try simp only [Act.put, List.setIfInBounds_toArray, List.set_cons_zero, List.set_cons_succ])
              refine wpAnyK_takeD (i := 13) (v := undef) (some 67) rfl rfl (by kernel_rfl) (by kernel_rfl) (by kernel_rfl) (by decide) (fun _ _ _ h => h) (Or.inr ⟨by rfl, rfl⟩) (fun _ => HS0.out) trivial ?_
              (try simp only [Act.put, List.setIfInBounds_toArray, List.set_cons_zero, List.set_cons_succ])
              refine wpAnyK_takeD (i := 14) (v := undef) (some 68) rfl rfl (by kernel_rfl) (by kernel_rfl) (by kernel_rfl) (by decide) (fun _ _ _ h => h) (Or.inr ⟨by rfl, rfl⟩) (fun _ => HS0.out) trivial ?_
              (try simp only [Act.put, List.setIfInBounds_toArray, List.set_cons_zero, List.set_cons_succ])
              refine wpAnyK_takeD (i := 15) (v := undef) (some 69) rfl rfl (by kernel_rfl) (by kernel_rfl) (by kernel_rfl) (by decide) (fun _ _ _ h => h) (Or.inr ⟨by rfl, rfl⟩) (fun _ => HS0.out) trivial ?_
              (try simp only [Act.put, List.setIfInBounds_toArray, List.set_cons_zero, List.set_cons_succ])
              refine wpAnyK_takeD (i := 16) (v := undef) (some 70) rfl rfl (by kernel_rfl) (by kernel_rfl) (by kernel_rfl) (by decide) (fun _ _ _ h => h) (Or.inr ⟨by rfl, rfl⟩) (fun _ => HS0.out) trivial ?_
              (try simp only [Act.put, List.setIfInBounds_toArray, List.set_cons_zero, List.set_cons_succ])
              refine wpAnyK_takeD (i := 17) (v := undef) (some 71) rfl rfl (by kernel_rfl) (by kernel_rfl) (by kernel_rfl) (by decide) (fun _ _ _ h => h) (Or.inr ⟨by rfl, rfl⟩) (fun _ => HS0.out) trivial ?_
              (try simp only [Act.put, List.setIfInBounds_toArray, List.set_cons_zero, List.set_cons_succ])
              refine wpAnyK_takeD (i := 18) (v := undef) (some 72) rfl rfl (by kernel_rfl) (by kernel_rfl) (by kernel_rfl) (by decide) (fun _ _ _ h => h) (Or.inr ⟨by rfl, rfl⟩) (fun _ => HS0.out) trivial ?_
              (try simp only [Act.put, List.setIfInBounds_toArray, List.set_cons_zero, List.set_cons_succ])
              refine wpAnyK_takeD (i := 19) (v := undef) (some 73) rfl rfl (by kernel_rfl) (by kernel_rfl) (by kernel_rfl) (by decide) (fun _ _ _ h => h) (Or.inr ⟨by rfl, rfl⟩) (fun _ => HS0.out) trivial ?_
              (try simp only [Act.put, List.setIfInBounds_toArray, List.set_cons_zero, List.set_cons_succ])
              refine wpAnyK_takeD (i := 20) (v := undef) (some 74) rfl rfl (by kernel_rfl) (by kernel_rfl) (by kernel_rfl) (by decide) (fun _ _ _ h => h) (Or.inr ⟨by rfl, rfl⟩) (fun _ => HS0.out) trivial ?_
              (try simp only [Act.put, List.setIfInBounds_toArray, List.set_cons_zero, List.set_cons_succ])
              refine wpAnyK_takeD (i := 21) (v := .bool false) (some 75) rfl rfl (by kernel_rfl) (by kernel_rfl) (by kernel_rfl) (by decide) (fun _ _ _ h => h) (Or.inl ⟨by rfl, fun w' hw' => ?_⟩) (fun _ => HS0.out) trivial ?_
              · go_simp
              (try simp only [Act.put, List.setIfInBounds_toArray, List.set_cons_zero, List.set_cons_succ])
              refine wpAnyK_takeD (i := 22) (v := .pointer (some ⟨R2, 0, none⟩)) (some 76) rfl rfl (by kernel_rfl) (by kernel_rfl) (by kernel_rfl) (by decide) (fun _ _ _ h => h) (Or.inl ⟨by rfl, fun w' hw' => ?_⟩) (fun _ => HS0.out) trivial ?_
              · go_simp
              (try simp only [Act.put, List.setIfInBounds_toArray, List.set_cons_zero, List.set_cons_succ])
              refine wpAnyK_all (rs := [23]) (by kernel_rfl) (by simp) ?_
              intro i' hi'
              obtain rfl := List.mem_singleton.1 hi'
              clear hi'
              refine wpOp_step rfl fun K hK => ?_
              go_simp
              refine hK _ _ ⟨fun h => (nomatch (h.symm.trans (show _ = true by kernel_rfl))), trivial, ?_⟩
              clear hK K
              refine wpAnyK_done (by kernel_rfl) ?_ _
              refine NoPanic.normal ?_
              go_wp2
              refine ⟨⟨0 + 1, by omega, by go_num, HBJ.out.drew.setCell (p := ⟨R2, 0, none⟩) hwR _, (HEJ.out.of_block (W' := wj.drew) rfl).of_block (Below.heap_setCell _ _ _ _ hER), ((HNJ.out.of_block (W' := wj.drew) rfl).set 0 (.bool false)).congr fun i _ => pvTo_set HNB.out i⟩, ?_⟩
              simp [intOf] <;> omega
            · obtain ⟨i, rfl⟩ : ∃ i, j = i + 1 := ⟨j - 1, by omega⟩
              have hil : i < s.data.toList.length := by rw [size_list]; omega
              have his : i < s.size := by omega
              have hm := matB_one hS' (l.take k) s.data.toList i hil
              rw [← HTK.out, HNB.out, ba_get s i his] at hm
              obtain ⟨pb, hpb⟩ : ∃ pb, matB (l.take k) (s.data.toList.take i) = pb := ⟨_, rfl⟩
              rw [hpb] at hm
              have hcP := HEJ.out.cell (j := i) (by omega)
              have hcP' : wj.cell? ⟨E, i, none⟩ = some (.bool pb) := by rw [hcP, ← hpb]
              have hi0 : (0 : Int) ≤ i := by omega
              have hi1 : (i : Int) < s.size + 1 := by omega
              have hgp : decide ((0 : Int) < ((i + 1 : Nat) : Int)) = true := decide_eq_true (by omega)
              have hsub : ((i + 1 : Nat) : Int) - 1 = i := by omega
              clear hcP hpb hil
              cases pb with
              | false =>
                have hz : nb = false := hm
                subst hz
                clear hm
                have HS0 := Lib.hid (show wj.drew.cell? ⟨E, i, none⟩ = some (.bool false) ∧ True from ⟨hcP', trivial⟩)
                go_wp2_with fail
                refine wp_region_noPanic ?_
                refine wp_region_any (by kernel_rfl) (wpAny_of_k (S := fun w' => w'.cell? ⟨E, i, none⟩ = some (.bool false) ∧ True) (S' := fun _ => True) (k := 23) _ _ _ _ ?_)
                change wpAnyK _ _ _ _ _ _ _ 24 _ _ wj.drew
                refine wpAnyK_takeD (i := 0) (v := .slice (some ⟨R2, 0, none⟩) (s.size + 1) (s.size + 1)) (some 54) rfl rfl (by kernel_rfl) (by kernel_rfl) (by kernel_rfl) (by decide) (fun _ _ _ h => h) (Or.inl ⟨by rfl, fun w' hw' => ?_⟩) (fun _ => HS0.out) trivial ?_
                · go_simp
                (try simp only [Act.put, List.setIfInBounds_toArray, List.set_cons_zero, List.set_cons_succ])
                refine wpAnyK_takeD (i := 1) (v := .int .i64 ((i + 1 : Nat) : Int)) (some 55) rfl rfl (by kernel_rfl) (by kernel_rfl) (by kernel_rfl) (by decide) (fun _ _ _ h => h) (Or.inl ⟨by rfl, fun w' hw' => ?_⟩) (fun _ => HS0.out) trivial ?_
                · go_simp
                (try simp only [Act.put, List.setIfInBounds_toArray, List.set_cons_zero, List.set_cons_succ])
                refine wpAnyK_takeD (i := 2) (v := .int .i64 ((i + 1 : Nat) : Int)) (some 56) rfl rfl (by kernel_rfl) (by kernel_rfl) (by kernel_rfl) (by decide) (fun _ _ _ h => h) (Or.inl ⟨by rfl, fun w' hw' => ?_⟩) (fun _ => HS0.out) trivial ?_
                · go_simp
                (try simp only [Act.put, List.setIfInBounds_toArray, List.set_cons_zero, List.set_cons_succ])
                refine wpAnyK_takeD (i := 3) (v := .bool true) (some 57) rfl rfl (by kernel_rfl) (by kernel_rfl) (by kernel_rfl) (by decide) (fun _ _ _ h => h) (Or.inl ⟨by rfl, fun w' hw' => ?_⟩) (fun _ => HS0.out) trivial ?_
                · go_simp
                (try simp only [Act.put, List.setIfInBounds_toArray, List.set_cons_zero, List.set_cons_succ])
                refine wpAnyK_takeD (i := 4) (v := .bool true) (some 58) rfl rfl (by kernel_rfl) (by kernel_rfl) (by kernel_rfl) (by decide) (fun _ _ _ h => h) (Or.inl ⟨by rfl, fun w' hw' => ?_⟩) (fun _ => HS0.out) trivial ?_
                · go_simp
                (try simp only [Act.put, List.setIfInBounds_toArray, List.set_cons_zero, List.set_cons_succ])
                refine wpAnyK_takeD (i := 5) (v := .slice (some ⟨E, 0, none⟩) (s.size + 1) (s.size + 1)) (some 59) rfl rfl (by kernel_rfl) (by kernel_rfl) (by kernel_rfl) (by decide) (fun _ _ _ h => h) (Or.inl ⟨by rfl, fun w' hw' => ?_⟩) (fun _ => HS0.out) trivial ?_
                · go_simp
                (try simp only [Act.put, List.setIfInBounds_toArray, List.set_cons_zero, List.set_cons_succ])
                refine wpAnyK_takeD (i := 6) (v := .int .i64 ((i + 1 : Nat) : Int)) (some 60) rfl rfl (by kernel_rfl) (by kernel_rfl) (by kernel_rfl) (by decide) (fun _ _ _ h => h) (Or.inl ⟨by rfl, fun w' hw' => ?_⟩) (fun _ => HS0.out) trivial ?_
                · go_simp
                (try simp only [Act.put, List.setIfInBounds_toArray, List.set_cons_zero, List.set_cons_succ])
                refine wpAnyK_takeD (i := 7) (v := .int .i64 i) (some 61) rfl rfl (by kernel_rfl) (by kernel_rfl) (by kernel_rfl) (by decide) (fun _ _ _ h => h) (Or.inl ⟨by rfl, fun w' hw' => ?_⟩) (fun _ => HS0.out) trivial ?_
                · go_simp <;> first | rfl | (exact IntWalk.i64_in _ (by omega))
                (try simp only [Act.put, List.setIfInBounds_toArray, List.set_cons_zero, List.set_cons_succ])
                refine wpAnyK_takeD (i := 8) (v := .pointer (some ⟨E, i, none⟩)) (some 62) rfl rfl (by kernel_rfl) (by kernel_rfl) (by kernel_rfl) (by decide) (fun _ _ _ h => h) (Or.inl ⟨by rfl, fun w' hw' => ?_⟩) (fun _ => HS0.out) trivial ?_
                · go_simp
                (try simp only [Act.put, List.setIfInBounds_toArray, List.set_cons_zero, List.set_cons_succ])
                refine wpAnyK_takeL (i := 9) (v := .bool false) (some 63) rfl rfl rfl (by kernel_rfl) (by kernel_rfl) (by kernel_rfl) (by kernel_rfl) (by kernel_rfl) (by decide) (fun _ _ _ h => h) (Or.inl ⟨by rfl, fun w' hw' => ?_⟩) HS0.out trivial ?_
                · obtain ⟨hw1, hw2⟩ := hw'
                  go_simp
                (try simp only [Act.put, List.setIfInBounds_toArray, List.set_cons_zero, List.set_cons_succ])
                refine wpAnyK_takeD (i := 10) (v := .bool false) (some 64) rfl rfl (by kernel_rfl) (by kernel_rfl) (by kernel_rfl) (by decide) (fun _ _ _ h => h) (Or.inl ⟨by rfl, fun w' hw' => ?_⟩) (fun _ => HS0.out) trivial ?_
                · go_simp
                (try simp only [Act.put, List.setIfInBounds_toArray, List.set_cons_zero, List.set_cons_succ])
                refine wpAnyK_takeD (i := 11) (v := .bool false) (some 65) rfl rfl (by kernel_rfl) (by kernel_rfl) (by kernel_rfl) (by decide) (fun _ _ _ h => h) (Or.inl ⟨by rfl, fun w' hw' => ?_⟩) (fun _ => HS0.out) trivial ?_
                · go_simp
                (try simp only [Act.put, List.setIfInBounds_toArray, List.set_cons_zero, List.set_cons_succ])
                refine wpAnyK_takeD (i := 12) (v := undef) (some 66) rfl rfl (by kernel_rfl) (by kernel_rfl) (by kernel_rfl) (by decide) (fun _ _ _ h => h) (Or.inr ⟨by rfl, rfl⟩) (fun _ => HS0.out) trivial ?_
                (try simp only [Act.put, List.setIfInBounds_toArray, List.set_cons_zero, List.set_cons_succ])
                refine wpAnyK_takeD (i := 13) (v := undef) (some 67) rfl rfl (by kernel_rfl) (by kernel_rfl) (by kernel_rfl) (by decide) (fun _ _ _ h => h) (Or.inr ⟨by rfl, rfl⟩) (fun _ => HS0.out) trivial ?_
                (try simp only [Act.put, List.setIfInBounds_toArray, List.set_cons_zero, List.set_cons_succ])
                refine wpAnyK_takeD (i := 14) (v := undef) (some 68) rfl rfl (by kernel_rfl) (by kernel_rfl) (by kernel_rfl) (by decide) (fun _ _ _ h => h) (Or.inr ⟨by rfl, rfl⟩) (fun _ => HS0.out) trivial ?_
                (try simp only [Act.put, List.setIfInBounds_toArray, List.set_cons_zero, List.set_cons_succ])
                refine wpAnyK_takeD (i := 15) (v := undef) (some 69) rfl rfl (by kernel_rfl) (by kernel_rfl) (by kernel_rfl) (by decide) (fun _ _ _ h => h) (Or.inr ⟨by rfl, rfl⟩) (fun _ => HS0.out) trivial ?_
                (try simp only [Act.put, List.setIfInBounds_toArray, List.set_cons_zero, List.set_cons_succ])
                refine wpAnyK_takeD (i := 16) (v := undef) (some 70) rfl rfl (by kernel_rfl) (by kernel_rfl) (by kernel_rfl) (by decide) (fun _ _ _ h => h) (Or.inr ⟨by rfl, rfl⟩) (fun _ => HS0.out) trivial ?_
                (try simp only [Act.put, List.setIfInBounds_toArray, List.set_cons_zero, List.set_cons_succ])
                refine wpAnyK_takeD (i := 17) (v := undef) (some 71) rfl rfl (by kernel_rfl) (by kernel_rfl) (by kernel_rfl) (by decide) (fun _ _ _ h => h) (Or.inr ⟨by rfl, rfl⟩) (fun _ => HS0.out) trivial ?_
                (try simp only [Act.put, List.setIfInBounds_toArray, List.set_cons_zero, List.set_cons_succ])
                refine wpAnyK_takeD (i := 18) (v := undef) (some 72) rfl rfl (by kernel_rfl) (by kernel_rfl) (by kernel_rfl) (by decide) (fun _ _ _ h => h) (Or.inr ⟨by rfl, rfl⟩) (fun _ => HS0.out) trivial ?_
                (try simp only [Act.put, List.setIfInBounds_toArray, List.set_cons_zero, List.set_cons_succ])
                refine wpAnyK_takeD (i := 19) (v := undef) (some 73) rfl rfl (by kernel_rfl) (by kernel_rfl) (by kernel_rfl) (by decide) (fun _ _ _ h => h) (Or.inr ⟨by rfl, rfl⟩) (fun _ => HS0.out) trivial ?_
                (try simp only [Act.put, List.setIfInBounds_toArray, List.set_cons_zero, List.set_cons_succ])
                refine wpAnyK_takeD (i := 20) (v := undef) (some 74) rfl rfl (by kernel_rfl) (by kernel_rfl) (by kernel_rfl) (by decide) (fun _ _ _ h => h) (Or.inr ⟨by rfl, rfl⟩) (fun _ => HS0.out) trivial ?_
                (try simp only [Act.put, List.setIfInBounds_toArray, List.set_cons_zero, List.set_cons_succ])
                refine wpAnyK_takeD (i := 21) (v := .bool false) (some 75) rfl rfl (by kernel_rfl) (by kernel_rfl) (by kernel_rfl) (by decide) (fun _ _ _ h => h) (Or.inl ⟨by rfl, fun w' hw' => ?_⟩) (fun _ => HS0.out) trivial ?_
                · go_simp
                (try simp only [Act.put, List.setIfInBounds_toArray, List.set_cons_zero, List.set_cons_succ])
                refine wpAnyK_takeD (i := 22) (v := .pointer (some ⟨R2, i + 1, none⟩)) (some 76) rfl rfl (by kernel_rfl) (by kernel_rfl) (by kernel_rfl) (by decide) (fun _ _ _ h => h) (Or.inl ⟨by rfl, fun w' hw' => ?_⟩) (fun _ => HS0.out) trivial ?_
                · go_simp
                  exact fun h => absurd h (by omega)
                (try simp only [Act.put, List.setIfInBounds_toArray, List.set_cons_zero, List.set_cons_succ])
                refine wpAnyK_all (rs := [23]) (by kernel_rfl) (by simp) ?_
                intro i' hi'
                obtain rfl := List.mem_singleton.1 hi'
                clear hi'
                refine wpOp_step rfl fun K hK => ?_
                go_simp
                refine hK _ _ ⟨fun h => (nomatch (h.symm.trans (show _ = true by kernel_rfl))), trivial, ?_⟩
                clear hK K
                refine wpAnyK_done (by kernel_rfl) ?_ _
                refine NoPanic.normal ?_
                go_wp2
                refine ⟨⟨i + 1 + 1, by omega, by go_num, HBJ.out.drew.setCell (p := ⟨R2, i + 1, none⟩) hwR _, (HEJ.out.of_block (W' := wj.drew) rfl).of_block (Below.heap_setCell _ _ _ _ hER), ((HNJ.out.of_block (W' := wj.drew) rfl).set (i + 1) (.bool false)).congr fun i _ => pvTo_set HNB.out i⟩, ?_⟩
                simp [intOf] <;> omega
              | true =>
                rw [Bool.true_and] at hm
                have HSTD := Lib.hid (fun W => refStands_at x s[i] (HOK.out x hxm) hS' (by have := HX.out x hxm; omega) nb hm.symm W)
                clear hm
                have HS0 := Lib.hid (show wj.drew.cell? ⟨E, i, none⟩ = some (.bool true) ∧ wj.drew.cell? ⟨b, off + k, none⟩ = some (.string (elB x)) from ⟨hcP', hcl⟩)
                go_wp2_with fail
                refine wp_region_noPanic ?_
                refine wp_region_any (by kernel_rfl) (wpAny_of_k (S := fun w' => w'.cell? ⟨E, i, none⟩ = some (.bool true) ∧ w'.cell? ⟨b, off + k, none⟩ = some (.string (elB x))) (S' := fun _ => True) (k := 23) _ _ _ _ ?_)
                change wpAnyK _ _ _ _ _ _ _ 24 _ _ wj.drew
                refine wpAnyK_takeD (i := 0) (v := .slice (some ⟨R2, 0, none⟩) (s.size + 1) (s.size + 1)) (some 54) rfl rfl (by kernel_rfl) (by kernel_rfl) (by kernel_rfl) (by decide) (fun _ _ _ h => h) (Or.inl ⟨by rfl, fun w' hw' => ?_⟩) (fun _ => HS0.out) trivial ?_
                · go_simp
                (try simp only [Act.put, List.setIfInBounds_toArray, List.set_cons_zero, List.set_cons_succ])
                refine wpAnyK_takeD (i := 1) (v := .int .i64 ((i + 1 : Nat) : Int)) (some 55) rfl rfl (by kernel_rfl) (by kernel_rfl) (by kernel_rfl) (by decide) (fun _ _ _ h => h) (Or.inl ⟨by rfl, fun w' hw' => ?_⟩) (fun _ => HS0.out) trivial ?_
                · go_simp
                (try simp only [Act.put, List.setIfInBounds_toArray, List.set_cons_zero, List.set_cons_succ])
                refine wpAnyK_takeD (i := 2) (v := .int .i64 ((i + 1 : Nat) : Int)) (some 56) rfl rfl (by kernel_rfl) (by kernel_rfl) (by kernel_rfl) (by decide) (fun _ _ _ h => h) (Or.inl ⟨by rfl, fun w' hw' => ?_⟩) (fun _ => HS0.out) trivial ?_
                · go_simp
                (try simp only [Act.put, List.setIfInBounds_toArray, List.set_cons_zero, List.set_cons_succ])
                refine wpAnyK_takeD (i := 3) (v := .bool true) (some 57) rfl rfl (by kernel_rfl) (by kernel_rfl) (by kernel_rfl) (by decide) (fun _ _ _ h => h) (Or.inl ⟨by rfl, fun w' hw' => ?_⟩) (fun _ => HS0.out) trivial ?_
                · go_simp
                (try simp only [Act.put, List.setIfInBounds_toArray, List.set_cons_zero, List.set_cons_succ])
                refine wpAnyK_takeD (i := 4) (v := .bool true) (some 58) rfl rfl (by kernel_rfl) (by kernel_rfl) (by kernel_rfl) (by decide) (fun _ _ _ h => h) (Or.inl ⟨by rfl, fun w' hw' => ?_⟩) (fun _ => HS0.out) trivial ?_
                · go_simp
                (try simp only [Act.put, List.setIfInBounds_toArray, List.set_cons_zero, List.set_cons_succ])
                refine wpAnyK_takeD (i := 5) (v := .slice (some ⟨E, 0, none⟩) (s.size + 1) (s.size + 1)) (some 59) rfl rfl (by kernel_rfl) (by kernel_rfl) (by kernel_rfl) (by decide) (fun _ _ _ h => h) (Or.inl ⟨by rfl, fun w' hw' => ?_⟩) (fun _ => HS0.out) trivial ?_
                · go_simp
                (try simp only [Act.put, List.setIfInBounds_toArray, List.set_cons_zero, List.set_cons_succ])
                refine wpAnyK_takeD (i := 6) (v := .int .i64 ((i + 1 : Nat) : Int)) (some 60) rfl rfl (by kernel_rfl) (by kernel_rfl) (by kernel_rfl) (by decide) (fun _ _ _ h => h) (Or.inl ⟨by rfl, fun w' hw' => ?_⟩) (fun _ => HS0.out) trivial ?_
                · go_simp
                (try simp only [Act.put, List.setIfInBounds_toArray, List.set_cons_zero, List.set_cons_succ])
                refine wpAnyK_takeD (i := 7) (v := .int .i64 i) (some 61) rfl rfl (by kernel_rfl) (by kernel_rfl) (by kernel_rfl) (by decide) (fun _ _ _ h => h) (Or.inl ⟨by rfl, fun w' hw' => ?_⟩) (fun _ => HS0.out) trivial ?_
                · go_simp <;> first | rfl | (exact IntWalk.i64_in _ (by omega))
                (try simp only [Act.put, List.setIfInBounds_toArray, List.set_cons_zero, List.set_cons_succ])
                refine wpAnyK_takeD (i := 8) (v := .pointer (some ⟨E, i, none⟩)) (some 62) rfl rfl (by kernel_rfl) (by kernel_rfl) (by kernel_rfl) (by decide) (fun _ _ _ h => h) (Or.inl ⟨by rfl, fun w' hw' => ?_⟩) (fun _ => HS0.out) trivial ?_
                · go_simp
                (try simp only [Act.put, List.setIfInBounds_toArray, List.set_cons_zero, List.set_cons_succ])
                refine wpAnyK_takeL (i := 9) (v := .bool true) (some 63) rfl rfl rfl (by kernel_rfl) (by kernel_rfl) (by kernel_rfl) (by kernel_rfl) (by kernel_rfl) (by decide) (fun _ _ _ h => h) (Or.inl ⟨by rfl, fun w' hw' => ?_⟩) HS0.out trivial ?_
                · obtain ⟨hw1, hw2⟩ := hw'
                  go_simp
                (try simp only [Act.put, List.setIfInBounds_toArray, List.set_cons_zero, List.set_cons_succ])
                refine wpAnyK_takeD (i := 10) (v := .bool true) (some 64) rfl rfl (by kernel_rfl) (by kernel_rfl) (by kernel_rfl) (by decide) (fun _ _ _ h => h) (Or.inl ⟨by rfl, fun w' hw' => ?_⟩) (fun _ => HS0.out) trivial ?_
                · go_simp
                (try simp only [Act.put, List.setIfInBounds_toArray, List.set_cons_zero, List.set_cons_succ])
                refine wpAnyK_takeD (i := 11) (v := .bool true) (some 65) rfl rfl (by kernel_rfl) (by kernel_rfl) (by kernel_rfl) (by decide) (fun _ _ _ h => h) (Or.inl ⟨by rfl, fun w' hw' => ?_⟩) (fun _ => HS0.out) trivial ?_
                · go_simp
                (try simp only [Act.put, List.setIfInBounds_toArray, List.set_cons_zero, List.set_cons_succ])
                refine wpAnyK_takeD (i := 12) (v := .slice (some ⟨b, off, none⟩) l.length vc) (some 66) rfl rfl (by kernel_rfl) (by kernel_rfl) (by kernel_rfl) (by decide) (fun _ _ _ h => h) (Or.inl ⟨by rfl, fun w' hw' => ?_⟩) (fun _ => HS0.out) trivial ?_
                · go_simp
                (try simp only [Act.put, List.setIfInBounds_toArray, List.set_cons_zero, List.set_cons_succ])
                refine wpAnyK_takeD (i := 13) (v := .int .i64 k) (some 67) rfl rfl (by kernel_rfl) (by kernel_rfl) (by kernel_rfl) (by decide) (fun _ _ _ h => h) (Or.inl ⟨by rfl, fun w' hw' => ?_⟩) (fun _ => HS0.out) trivial ?_
                · go_simp
                (try simp only [Act.put, List.setIfInBounds_toArray, List.set_cons_zero, List.set_cons_succ])
                refine wpAnyK_takeD (i := 14) (v := .pointer (some ⟨b, off + k, none⟩)) (some 68) rfl rfl (by kernel_rfl) (by kernel_rfl) (by kernel_rfl) (by decide) (fun _ _ _ h => h) (Or.inl ⟨by rfl, fun w' hw' => ?_⟩) (fun _ => HS0.out) trivial ?_
                · go_simp
                (try simp only [Act.put, List.setIfInBounds_toArray, List.set_cons_zero, List.set_cons_succ])
                refine wpAnyK_takeL (i := 15) (v := .string (elB x)) (some 69) rfl rfl rfl (by kernel_rfl) (by kernel_rfl) (by kernel_rfl) (by kernel_rfl) (by kernel_rfl) (by decide) (fun _ _ _ h => h) (Or.inl ⟨by rfl, fun w' hw' => ?_⟩) HS0.out trivial ?_
                · obtain ⟨hw1, hw2⟩ := hw'
                  go_simp
                (try simp only [Act.put, List.setIfInBounds_toArray, List.set_cons_zero, List.set_cons_succ])
                refine wpAnyK_takeD (i := 16) (v := .string s) (some 70) rfl rfl (by kernel_rfl) (by kernel_rfl) (by kernel_rfl) (by decide) (fun _ _ _ h => h) (Or.inl ⟨by rfl, fun w' hw' => ?_⟩) (fun _ => HS0.out) trivial ?_
                · go_simp
                (try simp only [Act.put, List.setIfInBounds_toArray, List.set_cons_zero, List.set_cons_succ])
                refine wpAnyK_takeD (i := 17) (v := .int .i64 ((i + 1 : Nat) : Int)) (some 71) rfl rfl (by kernel_rfl) (by kernel_rfl) (by kernel_rfl) (by decide) (fun _ _ _ h => h) (Or.inl ⟨by rfl, fun w' hw' => ?_⟩) (fun _ => HS0.out) trivial ?_
                · go_simp
                (try simp only [Act.put, List.setIfInBounds_toArray, List.set_cons_zero, List.set_cons_succ])
                refine wpAnyK_takeD (i := 18) (v := .int .i64 i) (some 72) rfl rfl (by kernel_rfl) (by kernel_rfl) (by kernel_rfl) (by decide) (fun _ _ _ h => h) (Or.inl ⟨by rfl, fun w' hw' => ?_⟩) (fun _ => HS0.out) trivial ?_
                · go_simp <;> first | rfl | (exact IntWalk.i64_in _ (by omega))
                (try simp only [Act.put, List.setIfInBounds_toArray, List.set_cons_zero, List.set_cons_succ])
                refine wpAnyK_takeD (i := 19) (v := .int .u8 s[i].toNat) (some 73) rfl rfl (by kernel_rfl) (by kernel_rfl) (by kernel_rfl) (by decide) (fun _ _ _ h => h) (Or.inl ⟨by rfl, fun w' hw' => ?_⟩) (fun _ => HS0.out) trivial ?_
                · go_simp
                (try simp only [Act.put, List.setIfInBounds_toArray, List.set_cons_zero, List.set_cons_succ])
                refine wpAnyK_all (rs := [20]) (by kernel_rfl) (by simp) ?_
                intro i' hi'
                obtain rfl := List.mem_singleton.1 hi'
                clear hi'
                refine wpOp_step rfl fun K hK => ?_
                go_simp
                refine (HSTD.out _).mono ?_
                rintro e w9 ⟨rfl, rfl⟩
                refine hK _ _ ⟨fun _ => HS0.out, trivial, ?_⟩
                clear hK K
                (try simp only [Act.put, List.setIfInBounds_toArray, List.set_cons_zero, List.set_cons_succ])
                refine wpAnyK_takeD (i := 21) (v := .bool nb) (some 75) rfl rfl (by kernel_rfl) (by kernel_rfl) (by kernel_rfl) (by decide) (fun _ _ _ h => h) (Or.inl ⟨by rfl, fun w' hw' => ?_⟩) (fun _ => HS0.out) trivial ?_
                · go_simp
                (try simp only [Act.put, List.setIfInBounds_toArray, List.set_cons_zero, List.set_cons_succ])
                refine wpAnyK_takeD (i := 22) (v := .pointer (some ⟨R2, i + 1, none⟩)) (some 76) rfl rfl (by kernel_rfl) (by kernel_rfl) (by kernel_rfl) (by decide) (fun _ _ _ h => h) (Or.inl ⟨by rfl, fun w' hw' => ?_⟩) (fun _ => HS0.out) trivial ?_
                · go_simp
                  exact fun h => absurd h (by omega)
                (try simp only [Act.put, List.setIfInBounds_toArray, List.set_cons_zero, List.set_cons_succ])
                refine wpAnyK_all (rs := [23]) (by kernel_rfl) (by simp) ?_
                intro i' hi'
                obtain rfl := List.mem_singleton.1 hi'
                clear hi'
                refine wpOp_step rfl fun K hK => ?_
                go_simp
                refine hK _ _ ⟨fun h => (nomatch (h.symm.trans (show _ = true by kernel_rfl))), trivial, ?_⟩
                clear hK K
                refine wpAnyK_done (by kernel_rfl) ?_ _
                refine NoPanic.normal ?_
                go_wp2
                refine ⟨⟨i + 1 + 1, by omega, by go_num, HBJ.out.drew.setCell (p := ⟨R2, i + 1, none⟩) hwR _, (HEJ.out.of_block (W' := wj.drew) rfl).of_block (Below.heap_setCell _ _ _ _ hER), ((HNJ.out.of_block (W' := wj.drew) rfl).set (i + 1) (.bool nb)).congr fun i _ => pvTo_set HNB.out i⟩, ?_⟩
                simp [intOf] <;> omega
        · obtain rfl : j = s.size + 1 := by omega
          have HBJ := Lib.hid hB
          have HNJ := Lib.hid (hrN.congr (f' := pv l s.data.toList (k + 1)) fun i hi => if_pos hi)
          clear hB hrE hrN
          go_wp2_with fail
          refine ⟨⟨k + 1, R2, by omega, by go_num, rfl, hwR, HBJ.out, HNJ.out⟩, ?_⟩
          simp [intOf]; omega
    · obtain rfl : k = l.length := by omega
      have hc := hrowE.cell (j := s.size) (by omega)
      have hc' : wk.cell? ⟨E, s.size, none⟩ = some (.bool r) := by
        rw [hc]
        show some (Value.bool (matB (l.take l.length) (s.data.toList.take s.size))) = _
        rw [List.take_length, ← size_list, List.take_length, HR.out]
      have h1 : (0 : Int) ≤ s.size := by omega
      have h2 : (s.size : Int) < s.size + 1 := by omega
      clear hc hrowE
      go_wp2_with fail
      go_ret
      exact ⟨rfl, HB.out⟩
end Go.Proofs.Ytjjdihkjkmhjnaa
