/- passCharacters of the program. -/
import Derived.Test.YtjjdihkjkmhjnaaGpBoth
import Derived.Deep.Cut
import Derived.Laws.Runes
namespace Go.Proofs.Ytjjdihkjkmhjnaa
set_option linter.unusedSimpArgs false
set_option linter.unusedVariables false
set_option maxRecDepth 100000
open Go.RowKit Go.Deep Go.Maps

theorem chW_ascii {c : UInt8} (h : chW c = true) : c.toNat < 128 := by
  unfold chW chI at h
  rcases Nat.lt_or_ge c.toNat 128 with g | g
  · exact g
  · exfalso
    have h1 : ((c.toNat : Int) == 42) = false := by rw [beq_eq_false_iff_ne]; omega
    have h2 : kindI c.toNat = 0 := by unfold kindI; repeat (rw [if_neg (by omega)])
    rw [h1, h2] at h
    cases h
theorem enc_ascii (c : Nat) (h : c < 128) : Utf8.encode (c : Int) = bOne (UInt8.ofNat c) := by
  have hv : Utf8.valid (c : Int) = true := by simp [Utf8.valid]; omega
  unfold Utf8.encode
  simp [hv, h]
  rfl
theorem chF_none {l m : List El} {R N : Fn} {i j : Nat} (h : R i j = none) : chF l m R i j N = N := by rw [chF, h]
theorem chF_no {l m : List El} {R N : Fn} {i j : Nat} {s : ByteArray} (h : R i j = some s) (h2 : fb l m i j = none) : chF l m R i j N = N := by rw [chF, h, h2]
theorem chF_some {l m : List El} {R N : Fn} {i j c : Nat} {s : ByteArray} (h : R i j = some s) (h2 : fb l m i j = some c) : chF l m R i j N = noteF N (beh l i) (beh m j) (s ++ bOne (UInt8.ofNat c)) := by rw [chF, h, h2]
def CharsPost (F : Fn) (w : World) (e : Ending) (w' : World) : Prop := ∃ nb, e = .returned (.map (some nb)) ∧ w.heap.size ≤ nb ∧ MapAt w' nb 4096 F ∧ Below w.heap.size w w'
set_option maxHeartbeats 8000000 in
theorem chars_any (l m : List El) (vl vm : Value) (rb nR : Nat) (R : Fn) (w : World) (hl : EAt w vl l) (hm : EAt w vm m) (hln : l.length ≤ 64) (hmn : m.length ≤ 64) (hM : MapAt w rb nR R)
    (hR8 : ∀ i j s, i < l.length → j < m.length → R i j = some s → s.size ≤ 8) :
    Calls Try.prog 67 #[vl, vm, .map (some rb)] w (CharsPost (ocF l m R (fun _ _ => none) l.length) w) := by
  have HVL := Lib.hid hl
  have HVM := Lib.hid hm
  have HMR := Lib.hid hM
  have HR8 := Lib.hid hR8
  obtain ⟨va, vc, rfl⟩ := hl.slice
  obtain ⟨va', vc', rfl⟩ := hm.slice
  have HMD := Lib.hid (MapAt.made w)
  have HBA := Lib.hid (below_box0 w (.map #[] 0))
  clear hl hm hM hR8
  have hmm := @run_makeMap Try.prog
  go_enter Try.func67, Try.ntmps67
  go_wp2_with fail
  go_loopw [17] (fun v17 wr => ∃ (i q : Nat), i ≤ l.length ∧ v17 = .int .i64 i ∧ q ≤ 64 * i ∧ MapAt wr w.heap.size q (ocF l m R (fun _ _ => none) i) ∧ Below w.heap.size w wr) (fun v17 _ => l.length - (intOf v17).toNat)
  case atStart => exact ⟨0, 0, Nat.zero_le _, rfl, Nat.le_refl _, HMD.out, HBA.out⟩
  case round =>
    obtain ⟨i, q0, hi, rfl, hq0, hM, hB⟩ := hrel
    obtain ⟨wi, rfl⟩ : ∃ x, x = wr := ⟨_, rfl⟩
    have HMI := Lib.hid hM
    have HBI := Lib.hid hB
    clear hM hB
    by_cases hil : i < l.length
    · go_wp2_with fail
      go_loopw [22] (fun v22 wr => ∃ (j q : Nat), j ≤ m.length ∧ v22 = .int .i64 j ∧ q ≤ 64 * i + j ∧ MapAt wr w.heap.size q (icF l m R i (ocF l m R (fun _ _ => none) i) j) ∧ Below w.heap.size w wr) (fun v22 _ => m.length - (intOf v22).toNat)
      case atStart => exact ⟨0, q0, Nat.zero_le _, rfl, by omega, HMI.out, HBI.out⟩
      case round =>
        obtain ⟨j, q, hj, rfl, hq, hM, hB⟩ := hrel
        obtain ⟨wj, rfl⟩ : ∃ x, x = wr := ⟨_, rfl⟩
        have HM := Lib.hid hM
        have HB := Lib.hid hB
        have HRJ := Lib.hid (HMR.out.below hB)
        clear hM hB
        by_cases hjl : j < m.length
        · cases hF : R i j with
          | none =>
            have HF := Lib.hid hF
            clear hF
            go_wp2_with (refine wpList_look_none rfl (.tmp 26) (.tmp 29) rfl HRJ.out rfl (i := i) (j := j) rfl (by omega) (by omega) HF.out ?_; intro k)
            refine ⟨⟨j + 1, q, by omega, by go_num, by omega, ?_, HB.out⟩, by simp [intOf]; omega⟩
            rw [icF, chF_none HF.out]; exact HM.out
          | some s =>
            have HF := Lib.hid hF
            have hs8 := HR8.out i j s hil hjl hF
            clear hF
            obtain ⟨bb1, off1, rfl, hbb1, hrg1⟩ := (HVL.out.below HB.out).get hil
            obtain ⟨bb2, off2, rfl, hbb2, hrg2⟩ := (HVM.out.below HB.out).get hjl
            have HRG := Lib.hid (And.intro hrg1 hrg2)
            have hi0 : (0 : Int) ≤ i := by omega
            have hi1 : (i : Int) < l.length := by omega
            have hj0 : (0 : Int) ≤ j := by omega
            have hj1 : (j : Int) < m.length := by omega
            clear hrg1 hrg2
            cases hb : fb l m i j with
            | none =>
              have HFB := Lib.hid (fob_at l m i j bb1 (off1 + i * 258) bb2 (off2 + j * 258) hil hjl wj.drew HRG.out.1 HRG.out.2 none hb)
              have HBN := Lib.hid hb
              clear hb
              go_upto_region 10 with (refine wpList_look_some rfl (.tmp 26) (.tmp 29) rfl HRJ.out rfl (i := i) (j := j) rfl (by omega) (by omega) HF.out ?_; intro _)
              refine wp_region_noPanic ?_
              refine wp_region_any (by kernel_rfl) (wpAny_of_k (S := fun _ => True) (S' := fun _ => True) (k := 99) _ _ _ _ ?_)
              change wpAnyK _ _ _ _ _ _ _ 12 _ _ wj.drew
              refine wpAnyK_takeD (i := 0) (v := .slice (some ⟨bb1, off1, none⟩) l.length vc) (some 36) rfl rfl (by kernel_rfl) (by kernel_rfl) (by kernel_rfl) (by decide) (fun _ _ _ h => h) (Or.inl ⟨by rfl, fun w' hw' => ?_⟩) (fun _ => trivial) (trivial) ?_
              · go_simp
              (try simp only [Act.put, List.setIfInBounds_toArray, List.set_cons_zero, List.set_cons_succ])
              refine wpAnyK_takeD (i := 1) (v := .int .i64 i) (some 37) rfl rfl (by kernel_rfl) (by kernel_rfl) (by kernel_rfl) (by decide) (fun _ _ _ h => h) (Or.inl ⟨by rfl, fun w' hw' => ?_⟩) (fun _ => trivial) (trivial) ?_
              · go_simp
              (try simp only [Act.put, List.setIfInBounds_toArray, List.set_cons_zero, List.set_cons_succ])
              refine wpAnyK_takeD (i := 2) (v := .pointer (some ⟨bb1, off1 + i * 258, none⟩)) (some 38) rfl rfl (by kernel_rfl) (by kernel_rfl) (by kernel_rfl) (by decide) (fun _ _ _ h => h) (Or.inl ⟨by rfl, fun w' hw' => ?_⟩) (fun _ => trivial) (trivial) ?_
              · go_simp
              (try simp only [Act.put, List.setIfInBounds_toArray, List.set_cons_zero, List.set_cons_succ])
              refine wpAnyK_takeD (i := 3) (v := .slice (some ⟨bb2, off2, none⟩) m.length vc') (some 39) rfl rfl (by kernel_rfl) (by kernel_rfl) (by kernel_rfl) (by decide) (fun _ _ _ h => h) (Or.inl ⟨by rfl, fun w' hw' => ?_⟩) (fun _ => trivial) (trivial) ?_
              · go_simp
              (try simp only [Act.put, List.setIfInBounds_toArray, List.set_cons_zero, List.set_cons_succ])
              refine wpAnyK_takeD (i := 4) (v := .int .i64 j) (some 40) rfl rfl (by kernel_rfl) (by kernel_rfl) (by kernel_rfl) (by decide) (fun _ _ _ h => h) (Or.inl ⟨by rfl, fun w' hw' => ?_⟩) (fun _ => trivial) (trivial) ?_
              · go_simp
              (try simp only [Act.put, List.setIfInBounds_toArray, List.set_cons_zero, List.set_cons_succ])
              refine wpAnyK_takeD (i := 5) (v := .pointer (some ⟨bb2, off2 + j * 258, none⟩)) (some 41) rfl rfl (by kernel_rfl) (by kernel_rfl) (by kernel_rfl) (by decide) (fun _ _ _ h => h) (Or.inl ⟨by rfl, fun w' hw' => ?_⟩) (fun _ => trivial) (trivial) ?_
              · go_simp
              (try simp only [Act.put, List.setIfInBounds_toArray, List.set_cons_zero, List.set_cons_succ])
              refine wpAnyK_all (rs := [6]) (by kernel_rfl) (by simp) ?_
              intro i' hi'
              obtain rfl := List.mem_singleton.1 hi'
              clear hi'
              refine wpOp_step rfl fun K hK => ?_
              go_simp
              refine HFB.out.mono ?_
              rintro e w9 ⟨rfl, rfl⟩
              refine hK _ _ ⟨fun _ => trivial, trivial, ?_⟩
              clear hK K
              (try simp only [Act.put, List.setIfInBounds_toArray, List.set_cons_zero, List.set_cons_succ])
              refine wpAnyK_takeD (i := 7) (v := .tuple #[.int .u8 0, .bool false]) (some 35) rfl rfl (by kernel_rfl) (by kernel_rfl) (by kernel_rfl) (by decide) (fun _ _ _ h => h) (Or.inl ⟨by rfl, fun w' hw' => ?_⟩) (fun _ => trivial) (trivial) ?_
              · go_simp
              (try simp only [Act.put, List.setIfInBounds_toArray, List.set_cons_zero, List.set_cons_succ])
              refine wpAnyK_takeD (i := 8) (v := .int .u8 0) (some 43) rfl rfl (by kernel_rfl) (by kernel_rfl) (by kernel_rfl) (by decide) (fun _ _ _ h => h) (Or.inl ⟨by rfl, fun w' hw' => ?_⟩) (fun _ => trivial) (trivial) ?_
              · go_simp
              (try simp only [Act.put, List.setIfInBounds_toArray, List.set_cons_zero, List.set_cons_succ])
              refine wpAnyK_takeD (i := 9) (v := .bool false) (some 44) rfl rfl (by kernel_rfl) (by kernel_rfl) (by kernel_rfl) (by decide) (fun _ _ _ h => h) (Or.inl ⟨by rfl, fun w' hw' => ?_⟩) (fun _ => trivial) (trivial) ?_
              · go_simp
              (try simp only [Act.put, List.setIfInBounds_toArray, List.set_cons_zero, List.set_cons_succ])
              refine wpAnyK_takeD (i := 10) (v := .int .u8 0) (some 12) rfl rfl (by kernel_rfl) (by kernel_rfl) (by kernel_rfl) (by decide) (fun _ _ _ h => h) (Or.inl ⟨by rfl, fun w' hw' => ?_⟩) (fun _ => trivial) (trivial) ?_
              · go_simp
              (try simp only [Act.put, List.setIfInBounds_toArray, List.set_cons_zero, List.set_cons_succ])
              refine wpAnyK_takeD (i := 11) (v := .bool false) (some 13) rfl rfl (by kernel_rfl) (by kernel_rfl) (by kernel_rfl) (by decide) (fun _ _ _ h => h) (Or.inl ⟨by rfl, fun w' hw' => ?_⟩) (fun _ => trivial) (trivial) ?_
              · go_simp
              (try simp only [Act.put, List.setIfInBounds_toArray, List.set_cons_zero, List.set_cons_succ])
              refine wpAnyK_done (by kernel_rfl) ?_ _
              refine NoPanic.normal ?_
              go_wp2_with fail
              refine ⟨⟨j + 1, q, by omega, by go_num, by omega, ?_, HB.out.drew⟩, by simp [intOf]; omega⟩
              rw [icF, chF_no HF.out HBN.out]; exact HM.out
            | some c =>
              obtain ⟨hc256, hok, _⟩ := fb_some hb
              have hcn : (UInt8.ofNat c).toNat = c := UInt8.toNat_ofNat_of_lt' (by simpa using hc256)
              have hc128 : c < 128 := by have := chW_ascii hok.2.2; omega
              have HFB := Lib.hid (fob_at l m i j bb1 (off1 + i * 258) bb2 (off2 + j * 258) hil hjl wj.drew HRG.out.1 HRG.out.2 (some c) hb)
              have HBN := Lib.hid hb
              have hst1 : wj.drew.drew.cell? ⟨bb1, off1 + i * 258 + 257, none⟩ = some (.bool (starAt l i)) := by rw [starAt_get hil]; exact HRG.out.1 257 _ (elL_star _)
              have hst2 : wj.drew.drew.cell? ⟨bb2, off2 + j * 258 + 257, none⟩ = some (.bool (starAt m j)) := by rw [starAt_get hjl]; exact HRG.out.2 257 _ (elL_star _)
              have HBH1 := Lib.hid (behind_at bb1 (off1 + i * 258) i (starAt l i) wj.drew.drew hst1 (by omega))
              have HBH2 := Lib.hid (behind_at bb2 (off2 + j * 258) j (starAt m j) wj.drew.drew hst2 (by omega))
              obtain ⟨p1, hp1⟩ : ∃ p, (if starAt l i then i else i + 1) = p := ⟨_, rfl⟩
              obtain ⟨p2, hp2⟩ : ∃ p, (if starAt m j then j else j + 1) = p := ⟨_, rfl⟩
              rw [hp1] at HBH1
              rw [hp2] at HBH2
              have h641 : p1 ≤ 64 := by rw [← hp1]; split <;> omega
              have h642 : p2 ≤ 64 := by rw [← hp2]; split <;> omega
              have HP := Lib.hid (And.intro (show p1 = beh l i from hp1.symm) (show p2 = beh m j from hp2.symm))
              have hc0 : (0 : Int) ≤ c := by omega
              have hc1 : (c : Int) < 256 := by omega
              have henc := enc_ascii c hc128
              have hw32 : IntKind.i32.wrap (c : Int) = c := by rw [IntKind.wrap_i32]; omega
              obtain ⟨z, hz⟩ : ∃ z, bOne (UInt8.ofNat c) = z := ⟨_, rfl⟩
              have hzs : z.size = 1 := by rw [← hz]; rfl
              rw [hz] at henc
              obtain ⟨sz, hsz⟩ : ∃ sz, s ++ z = sz := ⟨_, rfl⟩
              have hszs : sz.size ≤ 9 := by rw [← hsz, ByteArray.size_append, hzs]; omega
              have hadd : ∀ w, (Op.stringOp .add s z).run Try.prog w = .ok (.string sz) w := fun w => by
                rw [← hsz]; exact run_string_add_sum w _ _ (by rw [hzs]; omega)
              have HSZ := Lib.hid (show s ++ bOne (UInt8.ofNat c) = sz by rw [hz, hsz])
              have HRE := Lib.hid (reach_int w.heap.size q p1 p2 (p1 : Int) (p2 : Int) rfl rfl (icF l m R i (ocF l m R (fun _ _ => none) i) j) sz wj.drew.drew (show MapAt wj.drew.drew _ _ _ from HM.out) (by unfold maxLen; omega) h641 h642 (by unfold maxLen; omega))
              clear hb hok hcn hst1 hst2 hp1 hp2 hz hsz hzs
              go_upto_region 10 with (refine wpList_look_some rfl (.tmp 26) (.tmp 29) rfl HRJ.out rfl (i := i) (j := j) rfl (by omega) (by omega) HF.out ?_; intro _)
              refine wp_region_noPanic ?_
              refine wp_region_any (by kernel_rfl) (wpAny_of_k (S := fun _ => True) (S' := fun _ => True) (k := 99) _ _ _ _ ?_)
              change wpAnyK _ _ _ _ _ _ _ 12 _ _ wj.drew
              refine wpAnyK_takeD (i := 0) (v := .slice (some ⟨bb1, off1, none⟩) l.length vc) (some 36) rfl rfl (by kernel_rfl) (by kernel_rfl) (by kernel_rfl) (by decide) (fun _ _ _ h => h) (Or.inl ⟨by rfl, fun w' hw' => ?_⟩) (fun _ => trivial) (trivial) ?_
              · go_simp
              (try simp only [Act.put, List.setIfInBounds_toArray, List.set_cons_zero, List.set_cons_succ])
              refine wpAnyK_takeD (i := 1) (v := .int .i64 i) (some 37) rfl rfl (by kernel_rfl) (by kernel_rfl) (by kernel_rfl) (by decide) (fun _ _ _ h => h) (Or.inl ⟨by rfl, fun w' hw' => ?_⟩) (fun _ => trivial) (trivial) ?_
              · go_simp
              (try simp only [Act.put, List.setIfInBounds_toArray, List.set_cons_zero, List.set_cons_succ])
              refine wpAnyK_takeD (i := 2) (v := .pointer (some ⟨bb1, off1 + i * 258, none⟩)) (some 38) rfl rfl (by kernel_rfl) (by kernel_rfl) (by kernel_rfl) (by decide) (fun _ _ _ h => h) (Or.inl ⟨by rfl, fun w' hw' => ?_⟩) (fun _ => trivial) (trivial) ?_
              · go_simp
              (try simp only [Act.put, List.setIfInBounds_toArray, List.set_cons_zero, List.set_cons_succ])
              refine wpAnyK_takeD (i := 3) (v := .slice (some ⟨bb2, off2, none⟩) m.length vc') (some 39) rfl rfl (by kernel_rfl) (by kernel_rfl) (by kernel_rfl) (by decide) (fun _ _ _ h => h) (Or.inl ⟨by rfl, fun w' hw' => ?_⟩) (fun _ => trivial) (trivial) ?_
              · go_simp
              (try simp only [Act.put, List.setIfInBounds_toArray, List.set_cons_zero, List.set_cons_succ])
              refine wpAnyK_takeD (i := 4) (v := .int .i64 j) (some 40) rfl rfl (by kernel_rfl) (by kernel_rfl) (by kernel_rfl) (by decide) (fun _ _ _ h => h) (Or.inl ⟨by rfl, fun w' hw' => ?_⟩) (fun _ => trivial) (trivial) ?_
              · go_simp
              (try simp only [Act.put, List.setIfInBounds_toArray, List.set_cons_zero, List.set_cons_succ])
              refine wpAnyK_takeD (i := 5) (v := .pointer (some ⟨bb2, off2 + j * 258, none⟩)) (some 41) rfl rfl (by kernel_rfl) (by kernel_rfl) (by kernel_rfl) (by decide) (fun _ _ _ h => h) (Or.inl ⟨by rfl, fun w' hw' => ?_⟩) (fun _ => trivial) (trivial) ?_
              · go_simp
              (try simp only [Act.put, List.setIfInBounds_toArray, List.set_cons_zero, List.set_cons_succ])
              refine wpAnyK_all (rs := [6]) (by kernel_rfl) (by simp) ?_
              intro i' hi'
              obtain rfl := List.mem_singleton.1 hi'
              clear hi'
              refine wpOp_step rfl fun K hK => ?_
              go_simp
              refine HFB.out.mono ?_
              rintro e w9 ⟨rfl, rfl⟩
              refine hK _ _ ⟨fun _ => trivial, trivial, ?_⟩
              clear hK K
              (try simp only [Act.put, List.setIfInBounds_toArray, List.set_cons_zero, List.set_cons_succ])
              refine wpAnyK_takeD (i := 7) (v := .tuple #[.int .u8 c, .bool true]) (some 35) rfl rfl (by kernel_rfl) (by kernel_rfl) (by kernel_rfl) (by decide) (fun _ _ _ h => h) (Or.inl ⟨by rfl, fun w' hw' => ?_⟩) (fun _ => trivial) (trivial) ?_
              · go_simp
              (try simp only [Act.put, List.setIfInBounds_toArray, List.set_cons_zero, List.set_cons_succ])
              refine wpAnyK_takeD (i := 8) (v := .int .u8 c) (some 43) rfl rfl (by kernel_rfl) (by kernel_rfl) (by kernel_rfl) (by decide) (fun _ _ _ h => h) (Or.inl ⟨by rfl, fun w' hw' => ?_⟩) (fun _ => trivial) (trivial) ?_
              · go_simp
              (try simp only [Act.put, List.setIfInBounds_toArray, List.set_cons_zero, List.set_cons_succ])
              refine wpAnyK_takeD (i := 9) (v := .bool true) (some 44) rfl rfl (by kernel_rfl) (by kernel_rfl) (by kernel_rfl) (by decide) (fun _ _ _ h => h) (Or.inl ⟨by rfl, fun w' hw' => ?_⟩) (fun _ => trivial) (trivial) ?_
              · go_simp
              (try simp only [Act.put, List.setIfInBounds_toArray, List.set_cons_zero, List.set_cons_succ])
              refine wpAnyK_takeD (i := 10) (v := .int .u8 c) (some 12) rfl rfl (by kernel_rfl) (by kernel_rfl) (by kernel_rfl) (by decide) (fun _ _ _ h => h) (Or.inl ⟨by rfl, fun w' hw' => ?_⟩) (fun _ => trivial) (trivial) ?_
              · go_simp
              (try simp only [Act.put, List.setIfInBounds_toArray, List.set_cons_zero, List.set_cons_succ])
              refine wpAnyK_takeD (i := 11) (v := .bool true) (some 13) rfl rfl (by kernel_rfl) (by kernel_rfl) (by kernel_rfl) (by decide) (fun _ _ _ h => h) (Or.inl ⟨by rfl, fun w' hw' => ?_⟩) (fun _ => trivial) (trivial) ?_
              · go_simp
              (try simp only [Act.put, List.setIfInBounds_toArray, List.set_cons_zero, List.set_cons_succ])
              refine wpAnyK_done (by kernel_rfl) ?_ _
              refine NoPanic.normal ?_
              go_upto_region 12 with fail
              refine wp_region_noPanic ?_
              refine wp_region_any (by kernel_rfl) (wpAny_of_k (S := fun _ => True) (S' := fun _ => True) (k := 99) _ _ _ _ ?_)
              change wpAnyK _ _ _ _ _ _ _ 18 _ _ wj.drew.drew
              refine wpAnyK_takeD (i := 0) (v := .map (some w.heap.size)) (some 46) rfl rfl (by kernel_rfl) (by kernel_rfl) (by kernel_rfl) (by decide) (fun _ _ _ h => h) (Or.inl ⟨by rfl, fun w' hw' => ?_⟩) (fun _ => trivial) (trivial) ?_
              · go_simp
              (try simp only [Act.put, List.setIfInBounds_toArray, List.set_cons_zero, List.set_cons_succ])
              refine wpAnyK_takeD (i := 1) (v := .slice (some ⟨bb1, off1, none⟩) l.length vc) (some 47) rfl rfl (by kernel_rfl) (by kernel_rfl) (by kernel_rfl) (by decide) (fun _ _ _ h => h) (Or.inl ⟨by rfl, fun w' hw' => ?_⟩) (fun _ => trivial) (trivial) ?_
              · go_simp
              (try simp only [Act.put, List.setIfInBounds_toArray, List.set_cons_zero, List.set_cons_succ])
              refine wpAnyK_takeD (i := 2) (v := .int .i64 i) (some 48) rfl rfl (by kernel_rfl) (by kernel_rfl) (by kernel_rfl) (by decide) (fun _ _ _ h => h) (Or.inl ⟨by rfl, fun w' hw' => ?_⟩) (fun _ => trivial) (trivial) ?_
              · go_simp
              (try simp only [Act.put, List.setIfInBounds_toArray, List.set_cons_zero, List.set_cons_succ])
              refine wpAnyK_takeD (i := 3) (v := .pointer (some ⟨bb1, off1 + i * 258, none⟩)) (some 49) rfl rfl (by kernel_rfl) (by kernel_rfl) (by kernel_rfl) (by decide) (fun _ _ _ h => h) (Or.inl ⟨by rfl, fun w' hw' => ?_⟩) (fun _ => trivial) (trivial) ?_
              · go_simp
              (try simp only [Act.put, List.setIfInBounds_toArray, List.set_cons_zero, List.set_cons_succ])
              refine wpAnyK_takeD (i := 4) (v := .int .i64 i) (some 50) rfl rfl (by kernel_rfl) (by kernel_rfl) (by kernel_rfl) (by decide) (fun _ _ _ h => h) (Or.inl ⟨by rfl, fun w' hw' => ?_⟩) (fun _ => trivial) (trivial) ?_
              · go_simp
              (try simp only [Act.put, List.setIfInBounds_toArray, List.set_cons_zero, List.set_cons_succ])
              refine wpAnyK_takeD (i := 6) (v := .slice (some ⟨bb2, off2, none⟩) m.length vc') (some 52) rfl rfl (by kernel_rfl) (by kernel_rfl) (by kernel_rfl) (by decide) (fun _ _ _ h => h) (Or.inl ⟨by rfl, fun w' hw' => ?_⟩) (fun _ => trivial) (trivial) ?_
              · go_simp
              (try simp only [Act.put, List.setIfInBounds_toArray, List.set_cons_zero, List.set_cons_succ])
              refine wpAnyK_takeD (i := 7) (v := .int .i64 j) (some 53) rfl rfl (by kernel_rfl) (by kernel_rfl) (by kernel_rfl) (by decide) (fun _ _ _ h => h) (Or.inl ⟨by rfl, fun w' hw' => ?_⟩) (fun _ => trivial) (trivial) ?_
              · go_simp
              (try simp only [Act.put, List.setIfInBounds_toArray, List.set_cons_zero, List.set_cons_succ])
              refine wpAnyK_takeD (i := 8) (v := .pointer (some ⟨bb2, off2 + j * 258, none⟩)) (some 54) rfl rfl (by kernel_rfl) (by kernel_rfl) (by kernel_rfl) (by decide) (fun _ _ _ h => h) (Or.inl ⟨by rfl, fun w' hw' => ?_⟩) (fun _ => trivial) (trivial) ?_
              · go_simp
              (try simp only [Act.put, List.setIfInBounds_toArray, List.set_cons_zero, List.set_cons_succ])
              refine wpAnyK_takeD (i := 9) (v := .int .i64 j) (some 55) rfl rfl (by kernel_rfl) (by kernel_rfl) (by kernel_rfl) (by decide) (fun _ _ _ h => h) (Or.inl ⟨by rfl, fun w' hw' => ?_⟩) (fun _ => trivial) (trivial) ?_
              · go_simp
              (try simp only [Act.put, List.setIfInBounds_toArray, List.set_cons_zero, List.set_cons_succ])
              refine wpAnyK_takeD (i := 12) (v := .string s) (some 58) rfl rfl (by kernel_rfl) (by kernel_rfl) (by kernel_rfl) (by decide) (fun _ _ _ h => h) (Or.inl ⟨by rfl, fun w' hw' => ?_⟩) (fun _ => trivial) (trivial) ?_
              · go_simp
              (try simp only [Act.put, List.setIfInBounds_toArray, List.set_cons_zero, List.set_cons_succ])
              refine wpAnyK_takeD (i := 13) (v := .int .u8 c) (some 59) rfl rfl (by kernel_rfl) (by kernel_rfl) (by kernel_rfl) (by decide) (fun _ _ _ h => h) (Or.inl ⟨by rfl, fun w' hw' => ?_⟩) (fun _ => trivial) (trivial) ?_
              · go_simp
              (try simp only [Act.put, List.setIfInBounds_toArray, List.set_cons_zero, List.set_cons_succ])
              refine wpAnyK_takeD (i := 14) (v := .int .i32 c) (some 60) rfl rfl (by kernel_rfl) (by kernel_rfl) (by kernel_rfl) (by decide) (fun _ _ _ h => h) (Or.inl ⟨by rfl, fun w' hw' => ?_⟩) (fun _ => trivial) (trivial) ?_
              · go_simp
              (try simp only [Act.put, List.setIfInBounds_toArray, List.set_cons_zero, List.set_cons_succ])
              refine wpAnyK_takeD (i := 15) (v := .string z) (some 61) rfl rfl (by kernel_rfl) (by kernel_rfl) (by kernel_rfl) (by decide) (fun _ _ _ h => h) (Or.inl ⟨by rfl, fun w' hw' => ?_⟩) (fun _ => trivial) (trivial) ?_
              · go_simp
              (try simp only [Act.put, List.setIfInBounds_toArray, List.set_cons_zero, List.set_cons_succ])
              refine wpAnyK_takeD (i := 16) (v := .string sz) (some 62) rfl rfl (by kernel_rfl) (by kernel_rfl) (by kernel_rfl) (by decide) (fun _ _ _ h => h) (Or.inl ⟨by rfl, fun w' hw' => ?_⟩) (fun _ => trivial) (trivial) ?_
              · go_simp
              (try simp only [Act.put, List.setIfInBounds_toArray, List.set_cons_zero, List.set_cons_succ])
              refine wpAnyK_all (rs := [5]) (by kernel_rfl) (by simp) ?_
              intro i' hi'
              obtain rfl := List.mem_singleton.1 hi'
              clear hi'
              refine wpOp_step rfl fun K hK => ?_
              go_simp
              refine HBH1.out.mono ?_
              rintro e w9 ⟨rfl, rfl⟩
              refine hK _ _ ⟨fun _ => trivial, trivial, ?_⟩
              clear hK K
              (try simp only [Act.put, List.setIfInBounds_toArray, List.set_cons_zero, List.set_cons_succ])
              refine wpAnyK_all (rs := [10]) (by kernel_rfl) (by simp) ?_
              intro i' hi'
              obtain rfl := List.mem_singleton.1 hi'
              clear hi'
              refine wpOp_step rfl fun K hK => ?_
              go_simp
              refine HBH2.out.mono ?_
              rintro e w9 ⟨rfl, rfl⟩
              refine hK _ _ ⟨fun _ => trivial, trivial, ?_⟩
              clear hK K
              (try simp only [Act.put, List.setIfInBounds_toArray, List.set_cons_zero, List.set_cons_succ])
              refine wpAnyK_takeD (i := 11) (v := .agg #[intV p1, intV p2]) (some 57) rfl rfl (by kernel_rfl) (by kernel_rfl) (by kernel_rfl) (by decide) (fun _ _ _ h => h) (Or.inl ⟨by rfl, fun w' hw' => ?_⟩) (fun _ => trivial) (trivial) ?_
              · go_simp
              (try simp only [Act.put, List.setIfInBounds_toArray, List.set_cons_zero, List.set_cons_succ])
              refine wpAnyK_all (rs := [17]) (by kernel_rfl) (by simp) ?_
              intro i' hi'
              obtain rfl := List.mem_singleton.1 hi'
              clear hi'
              refine wpOp_step rfl fun K hK => ?_
              go_simp
              refine HRE.out.mono ?_
              rintro e wz ⟨rfl, hz1, hz2⟩
              have HZ := Lib.hid (And.intro hz1 ((HB.out.drew.drew).grown hz2 HB.out.size (fun k hk => by cases hk; exact Nat.le_refl _)))
              clear hz1 hz2
              refine hK _ _ ⟨fun _ => trivial, trivial, ?_⟩
              clear hK K
              (try simp only [Act.put, List.setIfInBounds_toArray, List.set_cons_zero, List.set_cons_succ])
              refine wpAnyK_done (by kernel_rfl) ?_ _
              refine NoPanic.normal ?_
              go_wp2_with fail
              refine ⟨⟨j + 1, q + 1, by omega, by go_num, by omega, ?_, HZ.out.2⟩, by simp [intOf]; omega⟩
              rw [icF, chF_some HF.out HBN.out, HSZ.out, ← HP.out.1, ← HP.out.2]; exact HZ.out.1
        · obtain rfl : j = m.length := by omega
          go_wp2_with fail
          exact ⟨⟨i + 1, q, by omega, by go_num, by omega, HM.out, HB.out⟩, by simp [intOf]; omega⟩
    · obtain rfl : i = l.length := by omega
      go_wp2_with fail
      go_ret
      exact ⟨w.heap.size, rfl, Nat.le_refl _, HMI.out.mono (by omega), HBI.out⟩
end Go.Proofs.Ytjjdihkjkmhjnaa
