/- The program of layer 9: Tags; all its contracts together. -/
import Derived.Test.YtdgihkgomfpmoaaGreatDoorMkPZ
namespace Go.Proofs.YtdgihkgomfpmoaaGreatDoor
set_option linter.unusedSimpArgs false
set_option linter.unusedVariables false
set_option maxRecDepth 100000
open Go.RowKit Go.Deep

theorem words_own {W : World} {base : Nat} {e : TypeId} {v : Value} {l : List Bs} (h : W.ownsRow base e 1 v l.length (l.map sV)) : WordsAt W v l := by
  rcases h.2 with ⟨rfl, hn⟩ | ⟨g, cap, cur, rfl, _⟩
  · exact ⟨none, 0, by rw [hn], fun h0 => by omega⟩
  · refine ⟨some ⟨g, 0, none⟩, cap, rfl, fun h0 => ⟨g, 0, rfl, (h.lt g rfl).2, fun j hj => ?_⟩⟩
    have := h.cells (g := g) rfl j (sV l[j]) (by rw [List.getElem?_map, List.getElem?_eq_getElem hj]; rfl)
    rw [addr_add] at this
    rw [Nat.zero_add]
    exact this
set_option maxHeartbeats 4000000 in
theorem tagsF_any (w : World) :
    Calls Tryz.prog 13 #[] w fun e w' => ∃ v, e = .returned v ∧ WordsAt w' v tagsL ∧ Below w.heap.size w w' := by
  obtain ⟨i0, hi, hz0, hz1, hz2⟩ := info_parts info_str
  go_enter Tryz.func13, Tryz.ntmps13
  go_wp2_with fail
  refine (tags_any _).mono ?_
  rintro e w1 ⟨g, rfl, hg, hg1, h1⟩
  have HG := Lib.hid hg
  have B1 := Lib.hid h1
  clear hg h1
  go_wp2
  go_loopw [1, 6] (fun sv iv wr => ∃ k : Nat, k ≤ 10 ∧ iv = .int .i64 k ∧ wr.ownsRow w1.heap.size 9 1 sv k ((tagsL.take k).map sV) ∧ Below w1.heap.size w1 wr) (fun _ iv _ => 10 - (intOf iv).toNat)
  case atStart => exact ⟨0, by omega, rfl, World.ownsRow_nil _ _ _ _, Below.refl _ _⟩
  case round =>
    obtain ⟨k, hk, rfl, ho, hB1⟩ := hrel
    obtain ⟨wk, rfl⟩ : ∃ x, x = wr := ⟨_, rfl⟩
    have HB1 := Lib.hid hB1
    obtain ⟨ra, rc, rfl⟩ : ∃ a c, u1 = .slice a k c := by
      rcases ho.2 with ⟨h1, h2⟩ | ⟨g, cap, cur, h1, _⟩
      · exact ⟨none, 0, by rw [h1, h2]⟩
      · exact ⟨_, _, h1⟩
    by_cases hlt : k < 10
    · have hge : k < tagsL.length := hlt
      obtain ⟨fv, c0, c1, c2, hv⟩ := HG.out.2 k hge
      obtain ⟨ff, lb, _, hfv, _⟩ := id hv
      subst hfv
      have hgl := HG.out.1
      have d0 := (hB1.cell (p := ⟨g, k * 3, none⟩) hgl).trans c0
      have d1 := (hB1.cell (p := ⟨g, k * 3 + 1, none⟩) hgl).trans c1
      have d2 := (hB1.cell (p := ⟨g, k * 3 + 2, none⟩) hgl).trans c2
      have htk : (tagsL.take (k + 1)).map sV = (tagsL.take k).map sV ++ [sV tagsL[k]] := by rw [List.take_succ_eq_append_getElem hge, List.map_append]; rfl
      obtain ⟨t, ht⟩ : ∃ t, tagsL[k] = t := ⟨_, rfl⟩
      rw [ht] at d0 d1 htk
      obtain ⟨bb, hbb⟩ : ∃ bb, emptyT t = bb := ⟨_, rfl⟩
      rw [hbb] at d1
      obtain ⟨wB, hwB⟩ : ∃ y, wk.alloc (.cells #[sV t, .bool bb, .func (.func ff) #[] lb] 60) = y := ⟨_, rfl⟩
      have hA : Below wk.heap.size wk wB := by rw [← hwB]; exact below_alloc _ _
      have hbx : wB.heap[wk.heap.size]? = some (.cells #[sV t, .bool bb, .func (.func ff) #[] lb] 60 (0, 0)) := by rw [← hwB]; exact World.alloc_heap_new _ _
      obtain ⟨l0, l1, l2⟩ := heap3 hbx
      have hoB : wB.ownsRow w1.heap.size 9 1 (.slice ra k rc) k ((tagsL.take k).map sV) := by rw [← hwB]; exact ho.alloc _
      have HO := Lib.hid hoB
      have HBB := Lib.hid (below_then hB1 hA)
      have HWB := Lib.hid hwB
      have HTK := Lib.hid htk
      have hw1le : w1.heap.size ≤ wB.heap.size := HBB.out.size
      have ib0 : (0 : Int) ≤ (k : Int) := by omega
      have ib1 : (k : Int) < 10 := by omega
      have q : decide ((k : Int) < 10) = true := decide_eq_true (by omega)
      clear ho hB1 hA hbx hwB c0 c1 c2 hv hbb ht htk hoB
      go_upto_region 5 with fail
      rw [HWB.out]
      clear d0 d1 d2
      go_wp2_with (at_builtin; refine wpList_append_own _ rfl _ _ 32 rfl w1.heap.size 9 i0 (.string ⟨#[]⟩) 1 16 Tryz.underlying32 hi hz0 hz1 hz2 rfl (by decide) _ _ _ rfl (HO.out.alloc _) ⟨wB.heap.size, 0, none⟩ 1 1 [sV t] rfl rfl (one_news _ _ _ _ rfl) (by simp [Value.oneCell']) (by unfold maxLen; omega) (by omega) (by simp; omega) ?_; intro v' w3 hown' hgrow hnn; clear hnn; have HO3 := Lib.hid hown'; have HB3 := Lib.hid ((HBB.out.alloc HBB.out.size _).grown hgrow (by simp; omega) (fun q hq => (HO.out.lt q hq).1)); obtain ⟨va, vc, rfl⟩ : ∃ a c, v' = .slice a (k + 1) c := (by rcases hown'.2 with ⟨h1, h2⟩ | ⟨g, cap, cur, h1, _⟩; (exact absurd h2 (by omega)); (exact ⟨_, _, h1⟩)); clear hown' hgrow)
      go_roundw
      case rel => exact ⟨k + 1, by omega, by go_num, by rw [HTK.out]; exact HO3.out, HB3.out⟩
      case measure => simp [intOf]; omega
    · obtain rfl : k = 10 := by omega
      have hw := words_own (l := tagsL) (by rw [show tagsL.take 10 = tagsL from rfl] at ho; exact ho)
      have HW := Lib.hid hw
      clear ho hB1 hw
      go_wp2
      go_ret
      exact ⟨_, rfl, HW.out, below_then B1.out HB1.out⟩
theorem mkOk : MkOk where
  scan := fun s w _ hs => scan_any s hs w
  strip := fun s w _ hs => strip_any s _ _ hs w rfl
  tags := tagsF_any
  check := fun L v w _ hv hb => check_any L _ v w rfl hv hb
  print := fun L v w _ hv hb => print_any L _ _ v w rfl hv hb
  nested := fun L v w _ hv hb => nested_any L _ v w rfl hv hb
  find := fun L i v w _ hv hb hi => find_any L i _ _ v w rfl hv hb hi
end Go.Proofs.YtdgihkgomfpmoaaGreatDoor
