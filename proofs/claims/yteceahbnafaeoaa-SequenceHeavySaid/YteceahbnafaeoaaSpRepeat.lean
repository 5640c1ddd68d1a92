/- slices.Repeat of a list of one element. -/
import Derived.Laws.CopyOwn
import Derived.Deep.RegionLaw
import Derived.Deep.OwnRows
import Derived.Test.YteceahbnafaeoaaSqRow
import Derived.Test.YteceahbnafaeoaaShelf
namespace Go.Proofs.Yteceahbnafaeoaa
set_option linter.unusedSimpArgs false
set_option linter.unusedVariables false
set_option maxRecDepth 100000
open Go.RowKit Go.Deep Go.Shelf

theorem mul_small (y : Nat) (hy : y ≤ 1024) (w : World) : Calls Try.prog 66 #[u64V 1, u64V y] w fun e w' => e = .returned (.tuple #[u64V 0, u64V y]) ∧ w = w' := by
  refine (Try.bits_Mul 1 y (by decide) (by omega) w).mono ?_
  rintro e w1 ⟨rfl, rfl⟩
  refine ⟨?_, rfl⟩
  have h1 : 1 * y / 18446744073709551616 = 0 := by rw [Nat.one_mul]; exact Nat.div_eq_of_lt (by omega)
  have h2 : 1 * y % 18446744073709551616 = y := by rw [Nat.one_mul]; exact Nat.mod_eq_of_lt (by omega)
  rw [h1, h2]
theorem rep_splice (x z : Value) (n m : Nat) (hm : m ≤ n) (k : Nat) (hk : k = Nat.min m (n - m)) :
    splice (List.replicate m x ++ List.replicate (n - m) z) m (List.replicate k x) = List.replicate (m + k) x ++ List.replicate (n - (m + k)) z := by
  have : k ≤ n - m := by rw [hk]; exact Nat.min_le_right _ _
  rw [splice, List.length_replicate, List.take_left' (by simp), List.drop_append, List.drop_of_length_le (by simp), List.length_replicate, List.nil_append, List.drop_replicate, ← List.append_assoc, List.replicate_append_replicate]
  congr 2
  omega

theorem made_rep (z : Value) (n : Nat) : madeCells #[z] n = (List.replicate n z).toArray := by
  apply Array.ext
  · simp [size_madeCells]
  · intro i h1 h2
    have h1' : i < n := by simpa [size_madeCells] using h1
    have : (madeCells #[z] n)[i]? = some z := by simp [madeCells, h1', Nat.mod_one]
    rw [Array.getElem?_eq_getElem h1] at this
    simpa using this
theorem row_of_rep {W : World} {b : Nat} {t : TypeId} {n : Nat} {z : Value} (h : W.heap[b]? = some (.cells (List.replicate n z).toArray t (0, 0))) : W.rowIs b t n (fun _ => z) :=
  ⟨_, h, by simp, fun i hi => by simp [hi]⟩

theorem rep_src {W : World} {g m n : Nat} {x z : Value} {t : TypeId} (h : W.heap[g]? = some (.cells (List.replicate m x ++ List.replicate (n - m) z).toArray t (0, 0))) :
    ∀ j v, (List.replicate (Nat.min m (n - m)) x)[j]? = some v → W.cell? ((⟨g, 0, none⟩ : Addr).add j) = some v := fun j v hj => by
  obtain ⟨hk, hv⟩ := List.getElem?_eq_some_iff.1 hj
  rw [List.length_replicate] at hk
  rw [List.getElem_replicate] at hv
  subst hv
  have hjm : j < m := Nat.lt_of_lt_of_le hk (Nat.min_le_left _ _)
  have e : (⟨g, 0, none⟩ : Addr).add j = ⟨g, j, none⟩ := by simp only [Addr.add]; split <;> simp_all
  have e2 : (List.replicate m x ++ List.replicate (n - m) z)[j]? = some x := by rw [List.getElem?_append_left (by simpa using hjm)]; simp [hjm]
  rw [e]
  simp only [World.cell?, h]
  simpa using e2

set_option maxHeartbeats 400000 in
theorem repeat_any (x : Int) (n : Nat) (hn : n ≤ 1024) (h1 : 0 < n) (b cap : Nat) (w : World) (hc : w.cell? ⟨b, 0, none⟩ = some (intV x)) (hb : b < w.heap.size) :
    Calls Try.prog 46 #[.slice (some ⟨b, 0, none⟩) 1 cap, intV n] w fun e w' => e = .returned (.slice (some ⟨w.heap.size, 0, none⟩) n n) ∧ w'.rowIs w.heap.size 3 n (fun _ => intV x) ∧ Below w.heap.size w w' := by
  have hsz : (Try.prog.info? 3).map (·.size) = some 1 := by kernel_rfl
  have hmk := run_make_row' (P := Try.prog) 22 3 (.int .i64 0) 8 rfl info_int rfl
  have hmk1 := fun W => hmk .i64 .i64 n (by omega) (by omega) W
  clear hmk
  go_enter Try.func46, Try.ntmps46
  go_wp2_with fail
  refine (mul_small n hn _).mono ?_
  rintro e w1 ⟨rfl, rfl⟩
  have hg1 : (w.alloc (.cells (madeCells #[.int .i64 0] n) 3)).heap[w.heap.size]? = some (.cells (List.replicate n (intV 0)).toArray 3 (0, 0)) := by rw [blk_alloc_new, made_rep]
  have HG1 := Lib.hid hg1
  have hc1 := (World.cell?_alloc_lt w (.cells (madeCells #[.int .i64 0] n) 3) ⟨b, 0, none⟩ hb).trans hc
  have HB1 := Lib.hid ((Below.refl w.heap.size w).alloc (Nat.le_refl _) (.cells (madeCells #[.int .i64 0] n) 3))
  have HN1 := Lib.hid h1
  clear hg1
  go_wp2_with (refine wpList_copy_splice rfl _ _ 22 22 rfl 3 Try.underlying22 hsz _ _ _ _ _ _ rfl rfl w.heap.size 0 (List.replicate n (intV 0)) 3 HG1.out [intV x] (Nat.min_eq_left HN1.out).symm (fun _ => ⟨rfl, _, rfl, fun j v hj => by cases j with | zero => cases hj; exact hc1 | succ j => simp at hj⟩) (by have := HN1.out; simp; omega) (by simp [Value.oneCell']) w.heap.size w HB1.out (Nat.le_refl _) ?_; intro w2 HG2 hB2)
  have HG3 := Lib.hid (show w2.heap[w.heap.size]? = some (.cells (List.replicate 1 (intV x) ++ List.replicate (n - 1) (intV 0)).toArray 3 (0, 0)) by have := HG2.out; rw [splice, List.take_zero, List.nil_append] at this; simpa [List.drop_replicate] using this)
  clear HG1 HG2 hc1
  go_loopw [8] (fun i wr => ∃ m : Nat, 1 ≤ m ∧ m ≤ n ∧ i = .int .i64 m ∧ wr.heap[w.heap.size]? = some (.cells (List.replicate m (intV x) ++ List.replicate (n - m) (intV 0)).toArray 3 (0, 0)) ∧ Below w.heap.size w wr) (fun i _ => n - (intOf i).toNat)
  case atStart => exact ⟨1, Nat.le_refl _, HN1.out, rfl, HG3.out, hB2⟩
  case round =>
    obtain ⟨m, hm1, hm2, rfl, hrow, hB⟩ := hrel
    obtain ⟨wk, rfl⟩ : ∃ x, x = wr := ⟨_, rfl⟩
    have HR := Lib.hid hrow
    have HB := Lib.hid hB
    clear hrow hB hB2 HG3
    by_cases hlt : m < n
    · have hsrc : ∀ j v, (List.replicate (Nat.min m (n - m)) (intV x))[j]? = some v → wk.cell? ((⟨w.heap.size, 0, none⟩ : Addr).add j) = some v := rep_src HR.out
      obtain ⟨cur, hcur⟩ : ∃ c, List.replicate m (intV x) ++ List.replicate (n - m) (intV 0) = c := ⟨_, rfl⟩
      obtain ⟨cs, hcs⟩ : ∃ c, List.replicate (Nat.min m (n - m)) (intV x) = c := ⟨_, rfl⟩
      have hmin : cs.length = Nat.min m (n - m) := by rw [← hcs, List.length_replicate]
      have hml : Nat.min m (n - m) ≤ n - m := Nat.min_le_right _ _
      have hm0 : 0 < Nat.min m (n - m) := Nat.lt_min.2 ⟨by omega, by omega⟩
      have hcl : cs.length ≤ n - m := by omega
      have hc0 : 0 < cs.length := by omega
      have hnm : ¬ n = m := by omega
      have HFIT := Lib.hid (show m + cs.length ≤ cur.length by rw [← hcur]; simp only [List.length_replicate, List.length_append]; omega)
      have HONE := Lib.hid (show ∀ v ∈ cs, v.oneCell' = true from fun v hv => by rw [← hcs] at hv; rw [List.eq_of_mem_replicate hv]; rfl)
      have HSRC := Lib.hid hsrc
      have HSP := Lib.hid (show splice cur m cs = List.replicate (m + cs.length) (intV x) ++ List.replicate (n - (m + cs.length)) (intV 0) by rw [← hcur, ← hcs, rep_splice _ _ n m hm2 _ rfl, List.length_replicate])
      have HMIN := Lib.hid hmin
      have hw : IntKind.i64.wrap ((m : Int) + (cs.length : Int)) = (m : Int) + (cs.length : Int) := IntWalk.i64_in _ (by omega)
      rw [hcur] at HR
      rw [hcs] at HSRC
      have HBD := Lib.hid (HB.out.trans (show Below w.heap.size wk wk.drew from ⟨rfl, rfl, rfl, Nat.le_refl _, fun _ _ => rfl⟩))
      have HRD := Lib.hid (show wk.drew.heap[w.heap.size]? = some (.cells cur.toArray 3 (0, 0)) from HR.out)
      have HSD := Lib.hid (show ∀ j v, cs[j]? = some v → wk.drew.cell? ((⟨w.heap.size, 0, none⟩ : Addr).add j) = some v from HSRC.out)
      clear hsrc hmin hml hm0 hcur hcs HB HR HSRC
      go_wp2_with fail
      go_region_law
        (refine step_copy_splice rfl (.tmp 41) (.tmp 44) 22 22 (by rfl) 3 Try.underlying22 hsz (some ⟨w.heap.size, m, none⟩) (some ⟨w.heap.size, 0, none⟩) (n - m) (n - m) m n (by simp [Act.eval, Act.put]) (by simp [Act.eval, Act.put]) w.heap.size m cur 3 HRD.out cs HMIN.out (fun _ => ⟨rfl, _, rfl, HSD.out⟩) HFIT.out HONE.out w.heap.size w HBD.out (Nat.le_refl _) ?_; intro w4 HG4 hB4)
      all_goals
        have HG5 := Lib.hid (show w4.heap[w.heap.size]? = some (.cells (List.replicate (m + cs.length) (intV x) ++ List.replicate (n - (m + cs.length)) (intV 0)).toArray 3 (0, 0)) by rw [← HSP.out]; exact HG4.out)
        have HB5 := Lib.hid hB4
        clear hB4 HG4 HRD HSD HBD
        simp only [List.getElem_toArray, List.getElem_cons_succ, List.getElem_cons_zero, Act.put, List.setIfInBounds_toArray, List.set_cons_zero, List.set_cons_succ]
        go_wp2
        go_roundw
        case rel => exact ⟨m + cs.length, by omega, by omega, by rw [Int.natCast_add], HG5.out, HB5.out⟩
        case measure => simp [intOf]; omega
    · obtain rfl : m = n := by omega
      have HR2 := Lib.hid (show wk.heap[w.heap.size]? = some (.cells (List.replicate m (intV x)).toArray 3 (0, 0)) by have := HR.out; simpa using this)
      go_wp2
      go_ret
      exact ⟨rfl, row_of_rep HR2.out, HB.out⟩
theorem repeat_none (x : Int) (b cap : Nat) (w : World) :
    Calls Try.prog 46 #[.slice (some ⟨b, 0, none⟩) 1 cap, .int .i64 0] w fun e w' => ∃ a c, e = .returned (.slice a 0 c) ∧ Below w.heap.size w w' := by
  have hsz : (Try.prog.info? 3).map (·.size) = some 1 := by kernel_rfl
  have hmk := run_make_row' (P := Try.prog) 22 3 (.int .i64 0) 8 rfl info_int rfl
  have hmk1 : ∀ W : World, Sem.run Try.prog (Instr.makeSlice 22 (.int .i64 0) (.int .i64 0)) W = .ok (.slice (some ⟨W.heap.size, 0, none⟩) 0 0) (W.alloc (.cells (madeCells #[.int .i64 0] 0) 3)) := fun W => hmk .i64 .i64 0 (by omega) (by omega) W
  have MS := Lib.hid (mul_small 0 (by omega))
  clear hmk
  go_enter Try.func46, Try.ntmps46
  go_wp2_with fail
  refine (MS.out _).mono ?_
  rintro e w1 ⟨rfl, rfl⟩
  have HB1 := Lib.hid ((Below.refl w.heap.size w).alloc (Nat.le_refl _) (.cells (madeCells #[.int .i64 0] 0) 3))
  go_wp2_with (refine wpList_copy_nothing rfl _ _ 22 22 rfl 3 Try.underlying22 hsz _ _ _ _ _ _ rfl rfl rfl ?_)
  go_loopw [8] (fun i wr => i = .int .i64 0 ∧ Below w.heap.size w wr) (fun _ _ => 0)
  case atStart => exact ⟨rfl, HB1.out⟩
  case round =>
    obtain ⟨rfl, hB⟩ := hrel
    go_wp2
    go_ret
    exact ⟨_, _, rfl, hB⟩
theorem repeat_one (x : Int) (n : Nat) (hn : n ≤ 1024) (b cap : Nat) (w : World) (hc : w.cell? ⟨b, 0, none⟩ = some (intV x)) (hb : b < w.heap.size) :
    Calls Try.prog 46 #[.slice (some ⟨b, 0, none⟩) 1 cap, intV n] w fun e w' => ∃ v, e = .returned v ∧ IntsAt w' v (List.replicate n x) ∧ Below w.heap.size w w' := by
  rcases Nat.eq_zero_or_pos n with rfl | h0
  · exact (repeat_none x b cap w).mono fun e w' ⟨a, c, h1, h2⟩ => ⟨_, h1, IntsAt.empty _ _ _, h2⟩
  · refine (repeat_any x n hn h0 b cap w hc hb).mono fun e w' ⟨h1, h2, h3⟩ => ⟨_, h1, ⟨_, n, by rw [List.length_replicate], fun _ => ⟨w.heap.size, 0, rfl, h2.lt, fun j hj => ?_⟩⟩, h3⟩
    rw [List.length_replicate] at hj
    rw [List.getElem_replicate, Nat.zero_add]
    exact h2.cell hj
end Go.Proofs.Yteceahbnafaeoaa
