/- lengths, and the walk of FixedpointAdds. -/
import Derived.Test.YtkiaiiepfphllaaDoorFpScales
import Derived.Laws.IdiomCopy
import Derived.Lib.EndianMore
namespace Go.Proofs.YtkiaiiepfphllaaDoor
set_option linter.unusedSimpArgs false
set_option linter.unusedVariables false
set_option maxRecDepth 100000
open Go.RowKit

/-- a slice of integers that came in: nil, or a row of cap cells, the first len of which are its elements -/
def RowIn (k : IntKind) (w : World) (a : Option Addr) (len cap : Nat) (zs : List Int) : Prop :=
  (a = none ∧ len = 0 ∧ cap = 0 ∧ zs = []) ∨
  ∃ x, a = some x ∧ len ≤ cap ∧ cap ≤ maxLen ∧ zs.length = cap ∧ (∀ i, i < zs.length → w.cell? (x.add i) = some (.int k (zs.getD i 0))) ∧ ∀ n ∈ zs, (Lit.int k n).wf = true
theorem add_block (x : Addr) (i : Nat) : (x.add i).block = x.block := by unfold Addr.add; split <;> rfl
theorem cell_lt {w : World} {p : Addr} {v : Value} (h : w.cell? p = some v) : p.block < w.heap.size := by
  rcases Nat.lt_or_ge p.block w.heap.size with h' | h'
  · exact h'
  · simp [World.cell?, Array.getElem?_eq_none h'] at h
/-- a list that the call has made -/
def OwnPost (zs : List Int) (w : World) (e : Ending) (w' : World) : Prop :=
  ∃ v', e = .returned v' ∧ w'.ownsRow w.heap.size 3 1 v' zs.length (zs.map intV) ∧ Below w.heap.size w w' ∧ (zs = [] → v' = .slice none 0 0)

def lenL (len : Nat) (z : List Int) : List Int := (z.take (min len 20)).map fun x => x.tmod 1048576
set_option maxHeartbeats 2000000 in
theorem lengths_any (a : Option Addr) (len cap : Nat) (z : List Int) (w : World) (h : RowIn .i32 w a len cap z) :
    Calls Tryd.prog 27 #[.slice a len cap] w (OwnPost (lenL len z) w) := by
  obtain ⟨i0, hi, hz0, hz1, hz2⟩ := info_parts info_int
  rcases h with ⟨rfl, rfl, rfl, rfl⟩ | ⟨x, rfl, hlc, hcm, hzl, hcell, hwf⟩
  · go_enter Tryd.func27, Tryd.ntmps27
    go_wp2
    refine wp_loop_rounds 1 ?_
    rw [rounds_succ]
    go_wp2
    go_ret
    exact ⟨_, rfl, World.ownsRow_nil _ _ _ _, Below.refl _ _, fun _ => rfl⟩
  · unfold maxLen at hcm
    obtain ⟨m, hm⟩ : ∃ m : Nat, min len 20 = m := ⟨_, rfl⟩
    have hmi : min (len : Int) 20 = (m : Int) := by omega
    have hmc : m ≤ cap := by omega
    have hm20 : m ≤ 20 := by omega
    have hX : lenL len z = (z.take m).map fun x => x.tmod 1048576 := by rw [lenL, hm]
    have hXl : (lenL len z).length = m := by rw [hX]; simp; omega
    obtain ⟨X, hXX⟩ : ∃ X, lenL len z = X := ⟨_, rfl⟩
    have hXi : ∀ j (hj : j < m), X[j]? = some ((z.getD j 0).tmod 1048576) := fun j hj => by
      rw [← hXX, hX, List.getElem?_map, List.getElem?_take, if_pos hj, List.getD_eq_getElem?_getD, List.getElem?_eq_getElem (by omega)]; rfl
    rw [hXX] at hXl ⊢
    have HXI := Lib.hid hXi
    have HC := Lib.hid (fun j (hj : j < m) => hcell j (by omega))
    have HW := Lib.hid (fun j (hj : j < m) => wf_i32 (hwf (z.getD j 0) (by rw [List.getD_eq_getElem?_getD, List.getElem?_eq_getElem (by omega)]; exact List.getElem_mem _)))
    clear hX hXX hXi hcell hm hwf hzl
    go_enter Tryd.func27, Tryd.ntmps27
    go_wp2
    go_loopw [3, 12] (fun o i wr => ∃ j : Nat, j ≤ m ∧ i = .int .i64 j ∧ wr.ownsRow w.heap.size 3 1 o (X.take j).length ((X.take j).map intV) ∧ Below w.heap.size w wr ∧ (j = 0 → o = .slice none 0 0))
      (fun _ i _ => m - (intOf i).toNat)
    case atStart => exact ⟨0, Nat.zero_le _, rfl, World.ownsRow_nil _ _ _ _, Below.refl _ _, fun _ => rfl⟩
    case round =>
      obtain ⟨j, hj, rfl, hown, hB, hnil⟩ := hrel
      have hl : (X.take j).length = j := by rw [List.length_take]; omega
      rw [hl] at hown
      have HO := Lib.hid hown
      have HN := Lib.hid hnil
      clear hown hnil hl
      by_cases hlt : j < m
      · have hc := HC.out j hlt
        have hc' : wr.cell? (x.add j) = some (.int .i32 (z.getD j 0)) := (hB.cell (by rw [add_block]; have := cell_lt hc; rwa [add_block] at this)).trans hc
        clear hc
        have hx := HXI.out j hlt
        have hyb := HW.out j hlt
        obtain ⟨y, hy⟩ : ∃ y, z.getD j 0 = y := ⟨_, rfl⟩
        rw [hy] at hc' hx hyb
        obtain ⟨y0, y1⟩ := hyb
        obtain ⟨t, ht⟩ : ∃ t, y.tmod 1048576 = t := ⟨_, rfl⟩
        rw [ht] at hx
        have t0 : -1048576 < t := by rw [← ht]; exact Int.lt_tmod_of_pos y (by omega)
        have t1 : t < 1048576 := by rw [← ht]; exact Int.tmod_lt_of_pos y (by omega)
        have HX := Lib.hid hx
        clear hx hy
        go_wp2_with (at_builtin; refine wpList_append_own _ rfl _ _ 30 rfl w.heap.size 3 i0 (.int .i64 0) 1 8 Tryd.underlying30 hi hz0 hz1 hz2 rfl (by decide) _ _ _ rfl (HO.out.alloc _) ⟨wr.heap.size, 0, none⟩ 1 1 [.int .i64 _] rfl rfl (int_news _ _ _ _ rfl) (by simp [Value.oneCell']) (by unfold maxLen; omega) (by omega) (by have := hB.size; simp; omega) ?_; intro v' w1 hown' hgrow hnn; clear hnn; have HO1 := Lib.hid hown'; have HB1 := Lib.hid (own_below hB hB.size HO.out hgrow); clear hown' hgrow)
        go_roundw
        case rel =>
          refine ⟨j + 1, by omega, by go_num, ?_, HB1.out, fun h => by omega⟩
          have e : X.take (j + 1) = X.take j ++ [t] := by rw [List.take_succ_eq_append_getElem (by omega)]; congr 1; have := HX.out; rw [List.getElem?_eq_getElem (by omega)] at this; simpa using this
          have h1 := HO1.out
          rw [e]
          have hl : (X.take j).length = j := by rw [List.length_take]; omega
          rw [List.length_append, hl, List.map_append]
          exact h1
        case measure => simp [intOf]; omega
      · obtain rfl : j = m := by omega
        go_wp2
        go_ret
        have h1 := HO.out
        rw [List.take_of_length_le (by omega)] at h1
        exact ⟨_, rfl, by rw [hXl]; exact h1, hB, fun h => HN.out (by rw [h] at hXl; simpa using hXl.symm)⟩
/-! ### the law -/
def Small (l : List Int) : Prop := ∀ x ∈ l, -1048576 ≤ x ∧ x ≤ 1048576
theorem sum_small : ∀ (l : List Int) (n : Nat), l.length ≤ n → Small l → -1048576 * (n : Int) ≤ sumZ l ∧ sumZ l ≤ 1048576 * (n : Int) := by
  intro l
  induction l with
  | nil => intro n _ _; simp [sumZ]; omega
  | cons x l ih =>
    intro n hn h
    obtain ⟨k, rfl⟩ : ∃ k, n = k + 1 := ⟨n - 1, by simp at hn; omega⟩
    have h1 := h x (List.mem_cons_self ..)
    have h2 := ih k (by simp at hn; omega) (fun y hy => h y (List.mem_cons_of_mem _ hy))
    rw [sumZ_cons]; omega
theorem sumR_small {l : List Int} (hl : l.length ≤ 20) (h : Small l) : sumR l = (sumZ l, 0) := by
  have hb := sum_small l 20 hl h
  rw [sumR, if_neg (by omega), if_pos (List.all_eq_true.2 fun x hx => by have := h x hx; exact isLen_of (by omega) (by omega)), if_pos (isLen_of (by omega) (by omega))]
theorem sumZ_append (a b : List Int) : sumZ (a ++ b) = sumZ a + sumZ b := by
  rw [sumZ, List.foldl_append, foldl_add]; rfl
theorem sumZ_reverse : ∀ l : List Int, sumZ l.reverse = sumZ l := by
  intro l
  induction l with
  | nil => rfl
  | cons x l ih => rw [List.reverse_cons, sumZ_append, ih, sumZ_cons, sumZ_cons, show sumZ [] = 0 from rfl]; omega
theorem Small.sub {a b : List Int} (h : Small b) (hs : ∀ x ∈ a, x ∈ b) : Small a := fun x hx => h x (hs x hx)
theorem lenL_small (len : Nat) (z : List Int) : Small (lenL len z) ∧ (lenL len z).length ≤ 20 := by
  refine ⟨fun x hx => ?_, by simp [lenL]; omega⟩
  obtain ⟨y, _, rfl⟩ := List.mem_map.1 hx
  have := Int.lt_tmod_of_pos y (show (0 : Int) < 1048576 by omega)
  have := Int.tmod_lt_of_pos y (show (0 : Int) < 1048576 by omega)
  omega
theorem below_drewN_b (B : Nat) (w : World) (q : Nat) : Below B w (w.drewN q) := ⟨rfl, rfl, rfl, Nat.le_refl _, fun _ _ => rfl⟩
theorem max4_zero (w : World) : Sem.run Tryd.prog (Builtin.max_ #[23, 23, 23, 23] 23 #[.int .i64 0, .int .i64 0, .int .i64 0, .int .i64 0]) w = .ok (.int .i64 0) w := by
  kernel_rfl
theorem part_at {w : World} {g cap off : Nat} {X : List Int} (h : ∀ j (hj : j < X.length), w.cell? ⟨g, off + j, none⟩ = some (.int .i64 X[j])) (hg : g < w.heap.size) : IntsAt w (.slice (some ⟨g, off, none⟩) X.length cap) X :=
  ⟨_, _, rfl, fun _ => ⟨g, off, rfl, hg, h⟩⟩

set_option maxHeartbeats 4000000 in
theorem adds_nil (a : Option Addr) (len cap : Nat) (z : List Int) (a1 : Int) (w : World) (hr : RowIn .i32 w a len cap z) (h1 : 0 ≤ a1 ∧ a1 ≤ 255) (hX : lenL len z = []) (hT : Tab w) :
    Calls Tryd.prog 6 #[.slice a len cap, .int .u8 a1] w fun e w' => e = .returned (.bool true) ∧ Below w.heap.size w w' := by
  obtain ⟨l1, u1⟩ := h1
  have C := Lib.hid (lengths_any a len cap z w hr)
  rw [hX] at C
  have S0 := Lib.hid (sumR_small (l := []) (by simp) (fun x hx => absurd hx (by simp)))
  have HT := Lib.hid hT
  have hk : a1 % 1 = 0 := by omega
  clear hr hX hT
  go_enter Tryd.func6, Tryd.ntmps6
  go_wp2_with fail
  refine C.out.mono ?_
  rintro e w1 ⟨v, rfl, ho, hb, hnil⟩
  obtain rfl := hnil rfl
  have B1 := Lib.hid hb
  clear ho hb hnil
  have hm := max4_zero
  have S := Lib.hid (fun w => sum_at [] (0, 0) S0.out (.slice none 0 0) w IntsAt.none (by decide))
  go_wp2_with (first
    | (go_at_call 18; refine (S.out _).mono ?_; rintro e w' ⟨rfl, rfl⟩)
    | (go_at_call 28; refine (Tryd.slices_Clone_int_nil 0 0 _).mono ?_; rintro e w' ⟨rfl, rfl⟩)
    | (go_at_call 29; refine (Tryd.slices_Reverse_int_empty _ _ _).mono ?_; rintro e w' ⟨rfl, rfl⟩))
  clear hm
  refine (awake_any _ (HT.out.below B1.out)).mono ?_
  rintro e w2 ⟨rfl, h2⟩
  have B2 := Lib.hid (below_seq B1.out h2 (Nat.le_refl _))
  clear h2
  go_wp2
  go_ret
  exact ⟨rfl, B2.out⟩

/-- what Reverse leaves -/
def RevPost (g n cap : Nat) (X : List Int) (B : Nat) (w : World) (e : Ending) (w' : World) : Prop :=
  e = .returned (.tuple #[]) ∧ IntsAt w' (.slice (some ⟨g, 0, none⟩) n cap) X ∧ Below B w w'
theorem reverse_at (g n cap B : Nat) (X : List Int) (hX : X.length = n) (hn : n ≤ 1000) (w : World) (hc : ∀ j (hj : j < X.length), w.cell? ⟨g, j, none⟩ = some (.int .i64 X[j])) (hf : ∀ j, w.frozen? ⟨g, j, none⟩ = false) (hg : g < w.heap.size) (hB : B ≤ g) :
    Calls Tryd.prog 29 #[.slice (some ⟨g, 0, none⟩) n cap] w (RevPost g n cap X.reverse B w) := by
  subst hX
  have hcg : ∀ j, j < X.length → w.cell? ⟨g, 0 + j, none⟩ = some (.int .i64 (X.getD j 0)) := fun j hj => by
    rw [Nat.zero_add, List.getD_eq_getElem?_getD, List.getElem?_eq_getElem hj]; exact hc j hj
  refine (Tryd.slices_Reverse_int_cells g 0 X.length cap X w (Nat.le_refl _) (by omega) hcg (fun j _ => by rw [Nat.zero_add]; exact hf j)).mono fun e w' ⟨h, q, hw⟩ => ⟨h, ?_, ?_⟩
  · rw [List.take_length] at hw
    subst hw
    refine ⟨some ⟨g, 0, none⟩, cap, by rw [List.length_reverse], fun _ => ⟨g, 0, rfl, ?_, fun j hj => ?_⟩⟩
    · have := (Lib.below_setCells_w (B := 0) (Nat.zero_le g) (X.reverse.map (Value.int .i64)) 0 (w.drewN q)).size
      exact Nat.lt_of_lt_of_le hg this
    · have := World.cell?_setCells_in g (X.reverse.map (Value.int .i64)) 0 (w.drewN q) (fun i hi => by
        have h9 := hcg i (by simpa using hi)
        rw [show (w.drewN q).cell? ⟨g, 0 + i, none⟩ = w.cell? ⟨g, 0 + i, none⟩ from rfl, h9]; rfl) j (by simpa using hj)
      rw [this]; simp
  · subst hw
    exact (below_drewN_b B w q).trans (Lib.below_setCells_w hB _ _ _)

set_option maxHeartbeats 4000000 in
theorem adds_some (a : Option Addr) (len cap : Nat) (z : List Int) (a1 : Int) (w : World) (hr : RowIn .i32 w a len cap z) (h1 : 0 ≤ a1 ∧ a1 ≤ 255) (hX : lenL len z ≠ []) (hT : Tab w) :
    Calls Tryd.prog 6 #[.slice a len cap, .int .u8 a1] w fun e w' => e = .returned (.bool true) ∧ Below w.heap.size w w' := by
  obtain ⟨l1, u1⟩ := h1
  have C := Lib.hid (lengths_any a len cap z w hr)
  obtain ⟨hsm, hl20⟩ := lenL_small len z
  obtain ⟨X, hXX⟩ : ∃ X, lenL len z = X := ⟨_, rfl⟩
  rw [hXX] at C hX hsm hl20
  have hn0 := List.length_pos_iff.2 hX
  obtain ⟨n, hn⟩ : ∃ n, X.length = n := ⟨_, rfl⟩
  rw [hn] at hl20 hn0
  obtain ⟨k, hk⟩ : ∃ k : Nat, a1 % ((n : Int) + 1) = (k : Int) := ⟨(a1 % ((n : Int) + 1)).toNat, by have := Int.emod_nonneg a1 (show ((n : Int) + 1) ≠ 0 by omega); omega⟩
  have hkn : k ≤ n := by have := Int.emod_lt_of_pos a1 (show 0 < ((n : Int) + 1) by omega); omega
  have T1 := sumR_small (l := X) (by omega) hsm
  have T2 := sumR_small (l := X.take k) (by simp; omega) (hsm.sub fun x hx => List.mem_of_mem_take hx)
  have T3 := sumR_small (l := X.drop k) (by simp; omega) (hsm.sub fun x hx => List.mem_of_mem_drop hx)
  have T4 := sumR_small (l := X.reverse) (by simp; omega) (hsm.sub fun x hx => List.mem_reverse.1 hx)
  have hb2 := sum_small (X.take k) 20 (by simp; omega) (hsm.sub fun x hx => List.mem_of_mem_take hx)
  have hb3 := sum_small (X.drop k) 20 (by simp; omega) (hsm.sub fun x hx => List.mem_of_mem_drop hx)
  rw [sumZ_reverse] at T4
  have hsum : sumZ X = sumZ (X.take k) + sumZ (X.drop k) := by rw [← sumZ_append, List.take_append_drop]
  obtain ⟨s, hs⟩ : ∃ s, sumZ X = s := ⟨_, rfl⟩
  obtain ⟨s2, hs2⟩ : ∃ s, sumZ (X.take k) = s := ⟨_, rfl⟩
  obtain ⟨s3, hs3⟩ : ∃ s, sumZ (X.drop k) = s := ⟨_, rfl⟩
  rw [hs] at T1 T4 hsum
  rw [hs2] at T2 hsum hb2
  rw [hs3] at T3 hsum hb3
  subst hsum
  have U1 := Lib.hid T1
  have U2 := Lib.hid T2
  have U3 := Lib.hid T3
  have U4 := Lib.hid T4
  have HT := Lib.hid hT
  have HN := Lib.hid hn
  clear hr hX hT T1 T2 T3 T4 hs hs2 hs3 hXX hsm hn
  go_enter Tryd.func6, Tryd.ntmps6
  go_wp2_with fail
  refine C.out.mono ?_
  rintro e w1 ⟨v, rfl, ho, hb, -⟩
  have B1 := Lib.hid hb
  rw [HN.out] at ho
  rcases ho.2 with ⟨-, hh⟩ | ⟨g, cp, cur, rfl, hgb, hgh, hnc, hcm, -⟩
  · exact absurd hh (by omega)
  have hgl : g < w1.heap.size := (Array.getElem?_eq_some_iff.1 hgh).1
  have hcs : ∀ j (hj : j < X.length), w1.cell? ⟨g, j, none⟩ = some (.int .i64 X[j]) := fun j hj => by
    rw [ho.cellAt j (by have := HN.out; omega)]; simp [hj, intV]
  have A1 := Lib.hid (show IntsAt w1 (.slice (some ⟨g, 0, none⟩) n cp) X from by rw [← HN.out]; exact part_at (fun j hj => by rw [Nat.zero_add]; exact hcs j hj) hgl)
  have A2 := Lib.hid (show IntsAt w1 (.slice (some ⟨g, 0, none⟩) k cp) (X.take k) from by
    have e : (X.take k).length = k := by rw [List.length_take, HN.out]; omega
    have := part_at (w := w1) (g := g) (off := 0) (cap := cp) (X := X.take k) (fun j hj => by rw [Nat.zero_add]; rw [List.getElem_take]; exact hcs j (by rw [e] at hj; rw [HN.out]; omega)) hgl
    rwa [e] at this)
  have A3 := Lib.hid (show ∀ c, IntsAt w1 (.slice (some ⟨g, k, none⟩) (n - k) c) (X.drop k) from fun c => by
    have e : (X.drop k).length = n - k := by rw [List.length_drop, HN.out]
    have := part_at (w := w1) (g := g) (off := k) (cap := c) (X := X.drop k) (fun j hj => by rw [List.getElem_drop]; exact hcs _ (by rw [e] at hj; rw [HN.out]; omega)) hgl
    rwa [e] at this)
  have A3' := Lib.hid (show k = n → ∀ a c, IntsAt w1 (.slice a 0 c) (X.drop k) from fun hk a c => by
    have e : X.drop k = [] := List.drop_eq_nil_of_le (by rw [HN.out]; omega)
    rw [e]; exact ⟨a, c, rfl, fun h => absurd h (by simp)⟩)
  have HCS := Lib.hid hcs
  unfold maxLen at hcm
  clear ho hb hgh hcs
  have hk0 : (0 : Int) ≤ k := by omega
  have HX20 := Lib.hid (show X.length ≤ 20 by rw [HN.out]; exact hl20)
  go_wp2_with fail
  refine (sum_at X _ U1.out _ _ A1.out (by have := HX20.out; omega)).mono ?_
  rintro e w2 ⟨rfl, rfl⟩
  go_wp2_with fail
  refine (sum_at (X.take k) _ U2.out _ _ A2.out (by have := HX20.out; simp; omega)).mono ?_
  rintro e w3 ⟨rfl, rfl⟩
  have hkc : k < cp ∨ (k = cp ∧ k = n) := by omega
  have HCL := Lib.hid (show ∀ j, j < X.length → w1.cell? ⟨g, 0 + j, none⟩ = some (.int .i64 (X.getD j 0)) from fun j hj => by
    rw [Nat.zero_add, List.getD_eq_getElem?_getD, List.getElem?_eq_getElem hj]; exact HCS.out j hj)
  have hm := max4_zero
  rcases hkc with hkc | ⟨hkc, hkn'⟩
  all_goals
    go_wp2_with fail
    refine (sum_at (X.drop k) _ U3.out _ _ (by first | exact A3.out _ | exact A3'.out hkn' _ _) (by have := HX20.out; simp; omega)).mono ?_
    rintro e w4 ⟨rfl, rfl⟩
    go_wp2_with fail
    refine (Tryd.slices_Clone_int g 0 n cp X w1 (by rw [HN.out]; omega) (by omega) HCL.out).mono ?_
    rintro e w5 ⟨v5, rfl, ho5, -, hb5⟩
    rcases ho5.2 with ⟨-, hh⟩ | ⟨g5, cp5, cur5, rfl, hgb5, hgh5, hnc5, hcm5, -⟩
    · exact absurd hh (by omega)
    have hgl5 : g5 < w5.heap.size := (Array.getElem?_eq_some_iff.1 hgh5).1
    have R := Lib.hid (reverse_at g5 n cp5 w1.heap.size X HN.out (by omega) w5 (fun j hj => by
      rw [ho5.cellAt j (by have := HN.out; omega), List.take_of_length_le (by have := HN.out; omega)]; simp [hj]) (fun j => ho5.frozenAt j) hgl5 hgb5)
    have B5 := Lib.hid hb5
    clear ho5 hgb5 hgh5 hnc5 hcm5 hgl5 hb5
    go_wp2_with fail
    refine R.out.mono ?_
    rintro e w6 ⟨rfl, hi6, hb6⟩
    have I6 := Lib.hid hi6
    have B6 := Lib.hid (below_seq B1.out (B5.out.trans hb6) (Nat.le_refl _))
    clear hi6 hb6
    go_wp2_with fail
    refine (sum_at X.reverse _ U4.out _ _ I6.out (by have := HX20.out; simp; omega)).mono ?_
    rintro e w7 ⟨rfl, rfl⟩
    go_wp2_with fail
    clear hm
    refine (awake_any _ (HT.out.below B6.out)).mono ?_
    rintro e w8 ⟨rfl, h8⟩
    have B8 := Lib.hid (below_seq B6.out h8 (Nat.le_refl _))
    clear h8
    go_wp2
    go_ret
    exact ⟨rfl, B8.out⟩
theorem adds_law (a : Option Addr) (len cap : Nat) (z : List Int) (a1 : Int) (w : World) (hr : RowIn .i32 w a len cap z) (w1 : (Lit.int .u8 a1).wf = true) (hT : Tab w) :
    Calls Tryd.prog 6 #[.slice a len cap, .int .u8 a1] w fun e w' => e = .returned (.bool true) ∧ Below w.heap.size w w' := by
  by_cases hX : lenL len z = []
  · exact adds_nil a len cap z a1 w hr (wf_u8 w1) hX hT
  · exact adds_some a len cap z a1 w hr (wf_u8 w1) hX hT
end Go.Proofs.YtkiaiiepfphllaaDoor
