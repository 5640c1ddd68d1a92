/- The reference's times: digits to the base 2^30. -/
import Derived.Test.YtkiaiiepfphllaaDoorFpScale
namespace Go.Proofs.YtkiaiiepfphllaaDoor
set_option linter.unusedSimpArgs false
set_option linter.unusedVariables false
open Go.RowKit

abbrev intV (x : Int) : Value := .int .i64 x
theorem info_int : (Tryd.prog.info? 3).map (fun i => (i.zero, i.size, i.bytes)) = some (some (.int .i64 0), 1, 8) := by kernel_rfl

theorem int_news (W : World) (c : Int) (t : TypeId) (n : Nat) (h : n = W.heap.size) : ∀ j u, [Value.int .i64 c][j]? = some u → (W.alloc (.cells #[.int .i64 c] t)).cell? ((⟨n, 0, none⟩ : Addr).add j) = some u := by
  intro j u hj
  subst h
  match j, hj with
  | 0, hj => simp at hj; subst hj; simp [Addr.add]
theorem own_below {w wr w1 : World} {base : Nat} {e : TypeId} {size n : Nat} {v : Value} {xs : List Value} {o : Obj} (hB : Below base w wr) (hb : base ≤ wr.heap.size) (hown : wr.ownsRow base e size v n xs) (hg : (wr.alloc o).grownBy w1 v.ownBlock) : Below base w w1 :=
  (hB.alloc hb o).grown hg (by simp; omega) (fun k hk => (hown.lt k hk).1)
theorem IntsAt.of_own {W : World} {base : Nat} {e : TypeId} {v : Value} {zs : List Int} {n : Nat} (h : W.ownsRow base e 1 v n (zs.map intV)) : IntsAt W v zs := by
  have hl := h.1
  rw [List.length_map, Nat.mul_one] at hl
  subst hl
  rcases h.2 with ⟨rfl, hn⟩ | ⟨g, cap, cur, rfl, _⟩
  · exact ⟨none, 0, by rw [hn], fun h0 => absurd h0 (by omega)⟩
  · refine ⟨some ⟨g, 0, none⟩, cap, rfl, fun h0 => ⟨g, 0, rfl, (h.lt g rfl).2, fun j hj => ?_⟩⟩
    have := h.cells (g := g) rfl j (intV zs[j]) (by simp [hj])
    have e : (⟨g, 0, none⟩ : Addr).add j = ⟨g, j, none⟩ := by simp only [Addr.add]; split <;> simp_all
    rw [e] at this; simpa using this

/-- the digits before the carry, and the carry -/
def tmsA (n : Int) (zs : List Int) : List Int × Int :=
  zs.foldl (fun p x => (p.1 ++ [(x * n + p.2) % 1073741824], (x * n + p.2) / 1073741824)) ([], 0)
def tms (n : Int) (zs : List Int) : List Int := (tmsA n zs).1 ++ [(tmsA n zs).2]
theorem tmsA_snoc (n : Int) (zs : List Int) (x : Int) : tmsA n (zs ++ [x]) = ((tmsA n zs).1 ++ [(x * n + (tmsA n zs).2) % 1073741824], (x * n + (tmsA n zs).2) / 1073741824) := by simp [tmsA]
theorem snoc_ind {P : List Int → Prop} (h0 : P []) (h1 : ∀ l x, P l → P (l ++ [x])) : ∀ l, P l := by
  intro l
  have : ∀ k (l : List Int), l.length = k → P l := by
    intro k
    induction k with
    | zero => intro l hl; rw [List.length_eq_zero_iff.1 hl]; exact h0
    | succ k ih =>
      intro l hl
      have e := (List.dropLast_concat_getLast (l := l) (by intro e; simp [e] at hl)).symm
      rw [e]
      exact h1 _ _ (ih _ (by simp [hl]))
  exact this _ l rfl
theorem tmsA_len (n : Int) : ∀ zs, (tmsA n zs).1.length = zs.length := by
  refine snoc_ind rfl fun l x ih => ?_
  rw [tmsA_snoc]; simp [ih]
theorem tms_len (n : Int) (zs : List Int) : (tms n zs).length = zs.length + 1 := by rw [tms, List.length_append, tmsA_len]; rfl

/-- digits between 0 and 2^30 + k -/
def Digs (k : Int) (zs : List Int) : Prop := ∀ x ∈ zs, 0 ≤ x ∧ x ≤ 1073741824 + k
theorem mul_bds {x n k c : Int} (hx : 0 ≤ x) (hx2 : x ≤ 1073741824 + k) (hn : 0 ≤ n) (hn2 : n ≤ 1073741824) (hk : 0 ≤ k) (hk2 : k ≤ 1000) (hc : 0 ≤ c) (hc2 : c ≤ n + k + 1) :
    0 ≤ x * n ∧ x * n + c ≤ 1073741824 * n + (k + 1) * (n + 1) ∧ x * n ≤ 1152923000000000000 := by
  have h0 := Int.mul_nonneg hx hn
  have h1 := Int.mul_le_mul_of_nonneg_right hx2 hn
  have h2 : (1073741824 + k) * n = 1073741824 * n + k * n := by rw [Int.add_mul]
  have h3 : (k + 1) * (n + 1) = k * n + k + n + 1 := by rw [Int.add_mul, Int.mul_add]; omega
  have h4 := Int.mul_le_mul hk2 hn2 hn (by omega)
  refine ⟨h0, by omega, by omega⟩
theorem carry_le {n k y : Int} (hn2 : n ≤ 1073741824) (hk : 0 ≤ k) (hk2 : k ≤ 1000) (hy : y ≤ 1073741824 * n + (k + 1) * (n + 1)) : y / 1073741824 ≤ n + k + 1 := by
  have h := Int.mul_le_mul_of_nonneg_left (show n + 1 ≤ 1073741825 by omega) (show 0 ≤ k + 1 by omega)
  omega
theorem tmsA_bd (n k : Int) (hn : 0 ≤ n) (hn2 : n ≤ 1073741824) (hk : 0 ≤ k) (hk2 : k ≤ 1000) : ∀ zs, Digs k zs → 0 ≤ (tmsA n zs).2 ∧ (tmsA n zs).2 ≤ n + k + 1 := by
  refine snoc_ind (fun _ => ⟨Int.le_refl _, by show (0 : Int) ≤ _; omega⟩) fun l x ih h => ?_
  obtain ⟨a, b⟩ := ih fun y hy => h y (by simp [hy])
  obtain ⟨c, d⟩ := h x (by simp)
  obtain ⟨m0, m1, m2⟩ := mul_bds c d hn hn2 hk hk2 a b
  rw [tmsA_snoc]
  refine ⟨by show 0 ≤ _ / _; omega, carry_le hn2 hk hk2 m1⟩

set_option maxHeartbeats 1000000 in
theorem refTimes_any (zs : List Int) (n k : Int) (hn : 0 ≤ n) (hn2 : n ≤ 1073741824) (hk : 0 ≤ k) (hk2 : k ≤ 1000) (hz : Digs k zs) (hl : zs.length ≤ 1000000) (v : Value) (w : World) (hv : IntsAt w v zs) :
    Calls Tryd.prog 49 #[v, .int .i64 n] w fun e w' => ∃ v', e = .returned v' ∧ IntsAt w' v' (tms n zs) ∧ Below w.heap.size w w' := by
  obtain ⟨i0, hi, hz0, hz1, hz2⟩ := info_parts info_int
  have HV := Lib.hid hv
  obtain ⟨a, cap, rfl, hc⟩ := hv
  have HC := Lib.hid hc
  have HZ := Lib.hid hz
  clear hc hz
  go_enter Tryd.func49, Tryd.ntmps49
  go_wp2
  go_loopw [5, 6, 7] (fun o c i wr => ∃ j : Nat, j ≤ zs.length ∧ i = .int .i64 j ∧ c = .int .i64 (tmsA n (zs.take j)).2 ∧ wr.ownsRow w.heap.size 3 1 o (tmsA n (zs.take j)).1.length ((tmsA n (zs.take j)).1.map intV) ∧ Below w.heap.size w wr)
    (fun _ _ i _ => zs.length - (intOf i).toNat)
  case atStart => exact ⟨0, Nat.zero_le _, rfl, rfl, World.ownsRow_lit _ #[] 0 (Nat.le_refl _) (by simp [maxLen]) rfl, (Below.refl _ _).alloc (Nat.le_refl _) _⟩
  case round =>
    obtain ⟨j, hj, rfl, rfl, hown, hB⟩ := hrel
    have HO := Lib.hid hown
    clear hown
    have hlen := tmsA_len n (zs.take j)
    rw [List.length_take, Nat.min_eq_left hj] at hlen
    obtain ⟨c0, c1⟩ := tmsA_bd n k hn hn2 hk hk2 (zs.take j) (fun y hy => HZ.out y (List.mem_of_mem_take hy))
    obtain ⟨ds, hds⟩ : ∃ ds, (tmsA n (zs.take j)).1 = ds := ⟨_, rfl⟩
    obtain ⟨c, hc⟩ : ∃ c, (tmsA n (zs.take j)).2 = c := ⟨_, rfl⟩
    rw [hc] at c0 c1
    rw [hds] at hlen
    have HDS := Lib.hid hds
    have HCC := Lib.hid hc
    have ho := HO.out
    rw [hds] at ho
    have HO' := Lib.hid ho
    clear ho HO hds
    try rw [hc]
    clear hc
    by_cases hlt : j < zs.length
    · obtain ⟨b, off, rfl, hbb, hcs⟩ := HC.out (by omega)
      have hcell := hcs j hlt
      clear hcs
      have hcell' : wr.cell? ⟨b, off + j, none⟩ = some (.int .i64 zs[j]) := (hB.cell (p := ⟨b, off + j, none⟩) hbb).trans hcell
      clear hcell
      obtain ⟨x0, x1⟩ := HZ.out zs[j] (List.getElem_mem hlt)
      obtain ⟨x, hx⟩ : ∃ x, zs[j] = x := ⟨_, rfl⟩
      rw [hx] at hcell' x0 x1
      have HX := Lib.hid hx
      clear hx
      obtain ⟨m0, m1, m2⟩ := mul_bds x0 x1 hn hn2 hk hk2 c0 c1
      obtain ⟨m, hm⟩ : ∃ m, x * n = m := ⟨_, rfl⟩
      rw [hm] at m0 m1 m2
      have hw1 : IntKind.i64.wrap (x * n) = m := by rw [hm]; exact IntWalk.i64_in _ (by omega)
      have HM := Lib.hid hm
      clear hm m1
      have hw2 : IntKind.i64.wrap (m + c) = m + c := IntWalk.i64_in _ (by omega)
      obtain ⟨y, hy⟩ : ∃ y, m + c = y := ⟨_, rfl⟩
      have y0 : 0 ≤ y := by omega
      have y1 : y ≤ 1152924000000000000 := by omega
      have HY := Lib.hid hy
      rw [hy] at hw2
      clear hy m0 m2
      have hq : y.tdiv 1073741824 = y / 1073741824 := Int.tdiv_eq_ediv_of_nonneg y0
      have hr : y.tmod 1073741824 = y % 1073741824 := Int.tmod_eq_emod_of_nonneg y0
      go_wp2_with (at_builtin; refine wpList_append_own _ rfl _ _ 30 rfl w.heap.size 3 i0 (.int .i64 0) 1 8 Tryd.underlying30 hi hz0 hz1 hz2 rfl (by decide) _ _ _ rfl (HO'.out.alloc _) ⟨wr.heap.size, 0, none⟩ 1 1 [.int .i64 _] rfl rfl (int_news _ _ _ _ rfl) (by simp [Value.oneCell']) (by unfold maxLen; omega) (by omega) (by have := hB.size; simp; omega) ?_; intro v' w1 hown' hgrow hnn; clear hnn; have HO1 := Lib.hid hown'; have HB1 := Lib.hid (own_below hB hB.size HO'.out hgrow); clear hown' hgrow)
      have e1 : wrap64 (m + c) = y := by rw [HY.out]; exact IntWalk.wrap64_in _ (by omega)
      have e2 : wrap64 ((wrap64 (m + c)).tdiv 1073741824) = y / 1073741824 := by rw [e1, hq]; exact IntWalk.wrap64_in _ (by omega)
      have ht : tmsA n (zs.take (j + 1)) = (ds ++ [y % 1073741824], y / 1073741824) := by
        rw [take_succ_int zs j hlt, tmsA_snoc, HDS.out, HCC.out, HX.out, HM.out, HY.out]
      go_roundw
      case rel =>
        refine ⟨j + 1, by omega, by go_num, ?_, ?_, HB1.out⟩
        · rw [ht, e2]
        · have := HO1.out
          rw [e1, hr] at this
          rw [ht]
          simpa using this
      case measure => simp [intOf]; omega
    · obtain rfl : j = zs.length := by omega
      rw [List.take_length] at HDS HCC
      go_wp2_with (at_builtin; refine wpList_append_own _ rfl _ _ 30 rfl w.heap.size 3 i0 (.int .i64 0) 1 8 Tryd.underlying30 hi hz0 hz1 hz2 rfl (by decide) _ _ _ rfl (HO'.out.alloc _) ⟨wr.heap.size, 0, none⟩ 1 1 [.int .i64 _] rfl rfl (int_news _ _ _ _ rfl) (by simp [Value.oneCell']) (by unfold maxLen; omega) (by omega) (by have := hB.size; simp; omega) ?_; intro v' w1 hown' hgrow hnn; clear hnn; have HO1 := Lib.hid hown'; have HB1 := Lib.hid (own_below hB hB.size HO'.out hgrow); clear hown' hgrow)
      go_ret
      refine ⟨v', rfl, ?_, HB1.out⟩
      have := HO1.out
      have ht : ds.map intV ++ [Value.int .i64 c] = (tms n zs).map intV := by
        rw [tms, HDS.out, HCC.out]; simp
      rw [ht] at this
      exact IntsAt.of_own this
theorem refTimes_at (zs : List Int) (n k : Int) (r : List Int) (h : tms n zs = r) (hn : 0 ≤ n) (hn2 : n ≤ 1073741824) (hk : 0 ≤ k) (hk2 : k ≤ 1000) (hz : Digs k zs) (hl : zs.length ≤ 1000000) (v : Value) (w : World) (hv : IntsAt w v zs) :
    Calls Tryd.prog 49 #[v, .int .i64 n] w fun e w' => ∃ v', e = .returned v' ∧ IntsAt w' v' r ∧ Below w.heap.size w w' := by subst h; exact refTimes_any zs n k hn hn2 hk hk2 hz hl v w hv
end Go.Proofs.YtkiaiiepfphllaaDoor
