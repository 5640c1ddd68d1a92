/- IntsetPartitions. -/
import Derived.Test.YtdplcpnahahkaaaIsSubsets
namespace Go.Proofs.Ytdplcpnahahkaaa
set_option linter.unusedSimpArgs false
set_option linter.unusedVariables false
set_option maxRecDepth 100000
open Go.RowKit Go.Deep

def wantB (L : List (List Int)) (k : Nat) (x : Nat) : Bool := decide (∀ y, y < x → cnt L y = if y < k then 1 else 0)
theorem wantB_zero (L : List (List Int)) (k : Nat) : wantB L k 0 = true := by simp [wantB]
theorem wantB_succ (L : List (List Int)) (k x : Nat) : wantB L k (x + 1) = (wantB L k x && decide (cnt L x = if x < k then 1 else 0)) := by
  rw [Bool.eq_iff_iff]
  simp only [wantB, Bool.and_eq_true, decide_eq_true_eq]
  constructor
  · intro h
    exact ⟨fun y hy => h y (by omega), h x (by omega)⟩
  · rintro ⟨h1, h2⟩ y hy
    by_cases e : y = x
    · subst e; exact h2
    · exact h1 y (by omega)
def allB (W : Bool) (L : List (List Int)) (j : Nat) : Bool := W && decide (∀ l ∈ L.take j, l ≠ [])
theorem allB_succ (W : Bool) (L : List (List Int)) (j : Nat) (h : j < L.length) : allB W L (j + 1) = (allB W L j && decide (0 < L[j].length)) := by
  rw [allB, allB, List.take_succ_eq_append_getElem h, Bool.and_assoc]
  congr 1
  rw [Bool.eq_iff_iff]
  simp only [Bool.and_eq_true, decide_eq_true_eq, List.mem_append, List.mem_singleton]
  constructor
  · intro hh
    refine ⟨fun l hl => hh l (.inl hl), ?_⟩
    have := hh _ (.inr rfl)
    exact List.length_pos_iff.2 this
  · rintro ⟨h1, h2⟩ l (hl | rfl)
    · exact h1 l hl
    · exact List.length_pos_iff.1 h2
theorem part_want (L : List (List Int)) (k : Nat) : partB k L = allB (wantB L k 64) L L.length := by
  rw [allB, List.take_length, partB, wantB, Bool.eq_iff_iff]
  simp only [Bool.and_eq_true, decide_eq_true_eq]
  constructor
  · rintro ⟨a, b⟩
    refine ⟨fun y hy => ?_, a⟩
    rw [b y hy]
    by_cases h : y < k
    · rw [if_pos h, if_pos (by omega)]
    · rw [if_neg h, if_neg (by omega)]
  · rintro ⟨b, a⟩
    refine ⟨a, fun y hy => ?_⟩
    rw [b y hy]
    by_cases h : y < k
    · rw [if_pos h, if_pos (by omega)]
    · rw [if_neg h, if_neg (by omega)]

set_option maxHeartbeats 8000000 in
theorem parts_law (w : World) (a0 : Int) (u1 : Value) (x1 : List (List Int)) (w0 : (Lit.int .u8 a0).wf = true) (w1 : ListsAt w u1 x1) (b1 : x1.length ≤ maxLen) :
    Calls Try.prog 9 #[.int .u8 a0, u1] w fun e w' => e = .returned (.bool true) ∧ Below w.heap.size w w' := by
  have hu8 : 0 ≤ a0 ∧ a0 ≤ 255 := by simpa [Lit.wf, IntKind.min, IntKind.max, IntKind.bits, IntKind.signed] using w0
  obtain ⟨u00, u01⟩ := hu8
  obtain ⟨k, hk⟩ : ∃ k : Nat, a0.tmod 65 = (k : Int) := ⟨(a0.tmod 65).toNat, by rw [Int.tmod_eq_emod_of_nonneg u00]; omega⟩
  have hk64 : k ≤ 64 := by rw [Int.tmod_eq_emod_of_nonneg u00] at hk; omega
  have hwk : IntKind.i64.wrap (k : Int) = (k : Int) := IntWalk.i64_in _ (by omega)
  have hwa : IntKind.i64.wrap a0 = a0 := IntWalk.i64_in _ (by omega)
  clear w0
  by_cases hgr : greatL x1 = true
  · have HG := Lib.hid (greatLists_any x1 true hgr u1 w w1)
    obtain ⟨a1, c1, rfl, _⟩ := w1
    clear hgr
    go_enter Try.func9, Try.ntmps9
    go_wp2_with fail
    refine HG.out.mono ?_
    rintro e v1 ⟨rfl, rfl⟩
    go_wp2_with fail
    refine (awake_any _).mono ?_
    rintro e v2 ⟨rfl, g2⟩
    have G2 := Lib.hid g2
    clear g2
    go_wp2
    go_ret
    exact ⟨rfl, G2.out⟩
  · have HG := Lib.hid (greatLists_any x1 false (by simpa using hgr) u1 w w1)
    have hlen : x1.length ≤ 20 := by
      simp only [greatL, decide_eq_true_eq, not_or] at hgr
      omega
    clear hgr
    by_cases hok : ∀ l ∈ x1, okL l
    · have HF := Lib.hid (fine_any x1 true (by simpa using hok) u1 w w1 b1)
      have HOK := Lib.hid hok
      have HV := Lib.hid w1
      obtain ⟨a1, c1, rfl, _⟩ := w1
      have hR : partR k x1 = (partB k x1, 0) := by
        rw [partR, if_neg (by omega), if_neg (by rintro ⟨l, h1, h2⟩; exact h2 (hok l h1).2)]
      rw [part_want] at hR
      obtain ⟨res, hres⟩ : ∃ res, allB (wantB x1 k 64) x1 x1.length = res := ⟨_, rfl⟩
      rw [hres] at hR
      have HR := Lib.hid hR
      have HRES := Lib.hid hres
      clear hok hR hres
      go_enter Try.func9, Try.ntmps9
      go_wp2_with fail
      refine HG.out.mono ?_
      rintro e v1 ⟨rfl, rfl⟩
      go_wp2_with fail
      refine HF.out.mono ?_
      rintro e v2 ⟨rfl, m, rfl⟩
      clear HG HF
      have HW := Lib.hid (HV.out.below (below_drewN w m))
      have HBD := Lib.hid (below_drewN w m)
      obtain ⟨wd, hwd⟩ : ∃ x, w.drewN m = x := ⟨_, rfl⟩
      rw [hwd] at HW HBD ⊢
      clear hwd
      go_wp2_with fail
      refine (part_any k x1 _ HR.out _ _ HW.out (by omega) (fun l h => Nat.le_trans (HOK.out l h).1 (by decide))).mono ?_
      rintro e v3 ⟨rfl, rfl⟩
      go_wp2
      go_loop [8, 32] (fun q i => ∃ x : Nat, x ≤ 64 ∧ i = .int .i64 x ∧ q = .bool (wantB x1 k x)) (fun _ i => 64 - (intOf i).toNat)
      case atStart => exact ⟨0, Nat.zero_le _, rfl, by rw [wantB_zero]⟩
      case round =>
        obtain ⟨x, hx, rfl, rfl⟩ := hrel
        by_cases hlt : x < 64
        · have HS := Lib.hid (wantB_succ x1 k x)
          obtain ⟨W, hW⟩ : ∃ W, wantB x1 k x = W := ⟨_, rfl⟩
          rw [hW] at HS ⊢
          clear hW
          go_wp2
          go_loop [10, 37] (fun c i => ∃ j : Nat, j ≤ x1.length ∧ i = .int .i64 j ∧ c = .int .i64 (cnt (x1.take j) x : Nat)) (fun _ i => x1.length - (intOf i).toNat)
          case atStart => exact ⟨0, Nat.zero_le _, rfl, rfl⟩
          case round =>
            obtain ⟨j, hj, rfl, rfl⟩ := hrel
            by_cases hjl : j < x1.length
            · obtain ⟨b, off, u, c, rfl, hb, hcell, hxs⟩ := HW.out.elem hjl
              have HT := Lib.hid (show cnt (x1.take (j + 1)) x = cnt (x1.take j) x + cnt [x1[j]] x by rw [List.take_succ_eq_append_getElem hjl, cnt_append])
              have hcl : cnt (x1.take j) x ≤ 20 := Nat.le_trans (List.length_filter_le _ _) (by rw [List.length_take]; omega)
              have hlen2 := HOK.out _ (List.getElem_mem hjl)
              obtain ⟨y, hy⟩ : ∃ y, x1[j] = y := ⟨_, rfl⟩
              rw [hy] at hcell hxs HT hlen2
              obtain ⟨cc, hcc⟩ : ∃ cc, cnt (x1.take j) x = cc := ⟨_, rfl⟩
              rw [hcc] at HT hcl ⊢
              have HC := Lib.hid (contains_any y x (has y x) rfl _ _ hxs (Nat.le_trans hlen2.1 (by decide)))
              have HQ := Lib.hid (cnt_one y x)
              obtain ⟨p, hp⟩ : ∃ p, has y x = p := ⟨_, rfl⟩
              rw [hp] at HC HQ
              clear hy hcc hxs hp hlen2
              cases p
              · go_wp2_with fail
                refine HC.out.mono ?_
                rintro e y1 ⟨rfl, rfl⟩
                go_wp2
                go_round
                case rel => exact ⟨j + 1, by omega, by go_num, by rw [HT.out, HQ.out]; simp⟩
                case measure => simp [intOf]; omega
              · go_wp2_with fail
                refine HC.out.mono ?_
                rintro e y1 ⟨rfl, rfl⟩
                go_wp2
                go_round
                case rel => exact ⟨j + 1, by omega, by go_num, by rw [HT.out, HQ.out]; simp⟩
                case measure => simp [intOf]; omega
            · obtain rfl : j = x1.length := by omega
              rw [List.take_length]
              have hcl : cnt x1 x ≤ 20 := Nat.le_trans (List.length_filter_le _ _) hlen
              obtain ⟨cc, hcc⟩ : ∃ cc, cnt x1 x = cc := ⟨_, rfl⟩
              rw [hcc] at HS hcl ⊢
              clear hcc
              cases W
              · go_wp2
                go_round
                case rel => exact ⟨x + 1, by omega, by go_num, by rw [HS.out]; rfl⟩
                case measure => simp [intOf]; omega
              · by_cases hxk : x < k
                · rw [if_pos hxk] at HS
                  by_cases hc1 : cc = 1
                  · subst hc1
                    go_wp2
                    go_round
                    case rel => exact ⟨x + 1, by omega, by go_num, by rw [HS.out]; simp⟩
                    case measure => simp [intOf]; omega
                  · have hb1 : ((cc : Int) == 1) = false := by rw [beq_eq_false_iff_ne]; omega
                    go_wp2
                    go_round
                    case rel => exact ⟨x + 1, by omega, by go_num, by rw [HS.out]; simp [hc1]⟩
                    case measure => simp [intOf]; omega
                · rw [if_neg hxk] at HS
                  by_cases hc1 : cc = 0
                  · subst hc1
                    go_wp2
                    go_round
                    case rel => exact ⟨x + 1, by omega, by go_num, by rw [HS.out]; simp⟩
                    case measure => simp [intOf]; omega
                  · have hb1 : ((cc : Int) == 0) = false := by rw [beq_eq_false_iff_ne]; omega
                    go_wp2
                    go_round
                    case rel => exact ⟨x + 1, by omega, by go_num, by rw [HS.out]; simp [hc1]⟩
                    case measure => simp [intOf]; omega
        · obtain rfl : x = 64 := by omega
          obtain ⟨W, hW⟩ : ∃ W, wantB x1 k 64 = W := ⟨_, rfl⟩
          rw [hW] at HRES ⊢
          clear hW
          go_wp2
          go_loop [8, 69] (fun q i => ∃ j : Nat, j ≤ x1.length ∧ i = .int .i64 j ∧ q = .bool (allB W x1 j)) (fun _ i => x1.length - (intOf i).toNat)
          case atStart => exact ⟨0, Nat.zero_le _, rfl, by simp [allB]⟩
          case round =>
            obtain ⟨j, hj, rfl, rfl⟩ := hrel
            by_cases hjl : j < x1.length
            · obtain ⟨b, off, u, c, rfl, hb, hcell, hxs⟩ := HW.out.elem hjl
              have HS := Lib.hid (allB_succ W x1 j hjl)
              obtain ⟨Q, hQ⟩ : ∃ Q, allB W x1 j = Q := ⟨_, rfl⟩
              rw [hQ] at HS ⊢
              obtain ⟨y, hy⟩ : ∃ y, x1[j].length = y := ⟨_, rfl⟩
              rw [hy] at hcell HS
              clear hQ hy hxs
              cases Q
              · go_wp2
                go_round
                case rel => exact ⟨j + 1, by omega, by go_num, by rw [HS.out]; rfl⟩
                case measure => simp [intOf]; omega
              · by_cases hy0 : 0 < y
                · go_wp2
                  go_round
                  case rel => exact ⟨j + 1, by omega, by go_num, by rw [HS.out]; simp [hy0]⟩
                  case measure => simp [intOf]; omega
                · have hyy : decide ((0 : Int) < (y : Int)) = false := by rw [decide_eq_false_iff_not]; omega
                  go_wp2
                  go_round
                  case rel => exact ⟨j + 1, by omega, by go_num, by rw [HS.out]; simp [hy0]⟩
                  case measure => simp [intOf]; omega
            · obtain rfl : j = x1.length := by omega
              rw [HRES.out]
              cases res
              all_goals
                go_wp2_with fail
                refine (awake_any _).mono ?_
                rintro e y1 ⟨rfl, g⟩
                have G := Lib.hid (HBD.out.trans (g.mono HBD.out.size))
                clear g
                go_wp2
                go_ret
                exact ⟨rfl, G.out⟩
    · have HF := Lib.hid (fine_any x1 false (by rw [decide_eq_false_iff_not]; exact hok) u1 w w1 b1)
      obtain ⟨a1, c1, rfl, _⟩ := w1
      clear hok
      go_enter Try.func9, Try.ntmps9
      go_wp2_with fail
      refine HG.out.mono ?_
      rintro e v1 ⟨rfl, rfl⟩
      go_wp2_with fail
      refine HF.out.mono ?_
      rintro e v2 ⟨rfl, m, rfl⟩
      go_wp2_with fail
      refine (awake_any _).mono ?_
      rintro e v2 ⟨rfl, g2⟩
      have G2 := Lib.hid ((below_drewN w m).trans (g2.mono (Nat.le_refl _)))
      clear g2
      go_wp2
      go_ret
      exact ⟨rfl, G2.out⟩
end Go.Proofs.Ytdplcpnahahkaaa
