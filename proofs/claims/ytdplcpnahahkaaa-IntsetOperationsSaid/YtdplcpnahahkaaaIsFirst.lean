/- firstCover of layer 4's own code. -/
import Derived.Test.YtdplcpnahahkaaaIsChoose
import Derived.Laws.EntriesVeiled
namespace Go.Proofs.Ytdplcpnahahkaaa
set_option linter.unusedSimpArgs false
set_option linter.unusedVariables false
set_option maxRecDepth 100000
open Go.RowKit Go.Shelf Go.Deep

theorem own_zero {w1 : World} {base : Nat} {e : TypeId} {v : Value} {n : Nat} (h : w1.ownsRow base e 1 v n (madeCells (Value.cells (.int .i64 0)) (n * 1)).toList) : w1.ownsRow base e 1 v n ((List.replicate n (0 : Int)).map intV) := by
  have e1 : (madeCells (Value.cells (.int .i64 0)) (n * 1)).toList = (List.replicate n (0 : Int)).map intV := by
    rw [Nat.mul_one]; exact (toList_madeCells_one (.int .i64 0) n).trans (by simp [intV])
  rwa [e1] at h
theorem own_below' {w w' : World} {b : Nat} {v : Value} {n : Nat} {xs : List Value} {e : TypeId} (h : w.ownsRow b e 1 v n xs) (hb : Below w.heap.size w w') : w'.ownsRow b e 1 v n xs := by
  refine ⟨h.1, ?_⟩
  rcases h.2 with hn | ⟨g, cap, cur, rfl, hbg, hg, rest⟩
  · exact .inl hn
  · exact .inr ⟨g, cap, cur, rfl, hbg, (hb.block g (Array.getElem?_eq_some_iff.1 hg).1).trans hg, rest⟩
theorem box1_cell (w1 : World) (b : Value) (t2 : TypeId) (N : Nat) (hN : w1.heap.size = N) : (w1.alloc (.cells #[b] t2)).cell? ⟨N, 0, none⟩ = some b := by
  subst hN; exact cell_new1 w1 b t2
theorem box1_frozen (w1 : World) (b : Value) (t2 : TypeId) (N : Nat) (hN : w1.heap.size = N) : (w1.alloc (.cells #[b] t2)).frozen? ⟨N, 0, none⟩ = false := by
  subst hN; exact World.frozen?_alloc_new w1 #[b] t2 0
set_option maxHeartbeats 4000000 in
theorem firstCover_any (P : List Nat) (hP : ∀ m ∈ P, m < 18446744073709551616) (hn : P.length ≤ 1000) (whole : Nat) (hw : whole < 18446744073709551616) (count : Nat) (hcount : count ≤ 1000) (bP : Nat) (w : World) (hbP : bP < w.heap.size)
    (hcP : ∀ j (h : j < P.length), w.cell? ⟨bP, j, none⟩ = some (u64V P[j])) :
    Calls Try.prog 58 #[u64V whole, .slice (some ⟨bP, 0, none⟩) P.length P.length, intV count] w fun e w' => ∃ v r, e = .returned (.tuple #[v, .bool r]) ∧ Below w.heap.size w w' ∧
      ((r = true ∧ ∃ c, FirstG P whole 0 0 count c ∧ IntsAt w' v (upL c)) ∨ (r = false ∧ (∀ c, ¬ Good P whole 0 0 count c) ∧ v = .slice none 0 0)) := by
  obtain ⟨i0, hi, hz0, hz1, hz2⟩ := info_parts info_int
  obtain ⟨w0, hw0, c1, c2, c3, hs0, hB0⟩ := three_cells w (u64V whole) (.slice (some ⟨bP, 0, none⟩) P.length P.length) (intV count) 53 59 3
  have HP := Lib.hid hP
  have HCP := Lib.hid (fun j h => (hB0.cell (p := ⟨bP, j, none⟩) hbP).trans (hcP j h))
  have HB0 := Lib.hid hB0
  have HS0 := Lib.hid hs0
  clear hP hcP hB0 hs0
  dsimp only [intV, u64V] at hw0
  go_enter Try.func58, Try.ntmps58
  go_wp2_with (refine wpList_make_full _ rfl _ _ 22 rfl w0.heap.size 3 i0 (.int .i64 0) 1 Try.underlying22 hi hz0 hz1 .i64 .i64 _ _ count rfl rfl rfl rfl (by rw [hz2]; omega) (by unfold maxLen; omega) (by omega) ?_; intro w1 hown1 hgrow1; have HO1 := Lib.hid (own_zero hown1); have HB1 := Lib.hid (below_make hgrow1); clear hown1 hgrow1; obtain ⟨w2, hw2⟩ : ∃ w2, w1.alloc (.cells #[(Value.slice (some ⟨w0.heap.size, 0, none⟩) count count)] 22) = w2 := ⟨_, rfl⟩; obtain ⟨N, hN⟩ : ∃ N, w2.heap.size = N := ⟨_, rfl⟩; have hst := box1_cell w2 Value.nilFunc 71 N hN; have hfz := box1_frozen w2 Value.nilFunc 71 N hN; have hld := box1_cell w2 (chF (w.heap.size + 1 + 1) w.heap.size (w.heap.size + 1) w1.heap.size N) 71 N hN; go_frame)
  clear hst hfz
  obtain ⟨w3, hw3⟩ : ∃ w3, (w2.alloc (.cells #[chF (w.heap.size + 1 + 1) w.heap.size (w.heap.size + 1) w1.heap.size N] 71)) = w3 := ⟨_, rfl⟩
  rw [hw3] at hld
  have hs1 : w0.heap.size < w1.heap.size := (HO1.out.lt _ rfl).2
  have hs2 : N = w1.heap.size + 1 := by rw [← hN, ← hw2]; simp
  have hB12 : Below w1.heap.size w1 w2 := by rw [← hw2]; exact (Below.refl _ _).alloc (Nat.le_refl _) _
  have hB23 : Below w2.heap.size w2 w3 := by rw [← hw3]; exact (Below.refl _ _).alloc (Nat.le_refl _) _
  have hB13 := below_then hB12 hB23
  have hB03 := below_then HB1.out hB13
  have hs0 := HS0.out
  have hch : w2.cell? ⟨w1.heap.size, 0, none⟩ = some (.slice (some ⟨w0.heap.size, 0, none⟩) count count) := by rw [← hw2]; exact cell_new1 _ _ _
  have hC : Ch w0.heap.size count P whole (w.heap.size + 1 + 1) w.heap.size (w.heap.size + 1) w1.heap.size N bP w3 (List.replicate count 0) :=
    ⟨by simp, by omega, by omega, by omega, by omega, by omega, by omega,
      (hB03.cell (p := ⟨w.heap.size + 1 + 1, 0, none⟩) (by show w.heap.size + 1 + 1 < _; omega)).trans c3,
      (hB03.cell (p := ⟨w.heap.size, 0, none⟩) (by show w.heap.size < _; omega)).trans c1,
      (hB03.cell (p := ⟨w.heap.size + 1, 0, none⟩) (by show w.heap.size + 1 < _; omega)).trans c2,
      fun j h => (hB03.cell (p := ⟨bP, j, none⟩) (by show bP < _; omega)).trans (HCP.out j h),
      (hB23.cell (p := ⟨w1.heap.size, 0, none⟩) (by show w1.heap.size < _; omega)).trans hch, hld, own_below' HO1.out hB13⟩
  have HCH := Lib.hid (choose_any w0.heap.size count P HP.out hn hcount whole (w.heap.size + 1 + 1) w.heap.size (w.heap.size + 1) w1.heap.size N bP count 0 0 0 (by omega) (Nat.zero_le _) (by decide) w3 _ hC)
  have HBW := Lib.hid (HB0.out.trans (hB03.mono (by omega)))
  have HGE := Lib.hid (show w.heap.size ≤ w0.heap.size by omega)
  rw [hw3]
  clear hld hw3 hw2 hN hs1 hs2 hB12 hB23 hB13 hB03 hs0 hch hC c1 c2 c3 hw0
  refine HCH.out.mono ?_
  rintro e w4 ⟨r, rfl, hb4, h⟩
  have HB4 := Lib.hid (HBW.out.trans (hb4.mono HGE.out))
  clear hb4 HCH
  rcases h with ⟨rfl, c, hF, hC2⟩ | ⟨rfl, hNo, ys2, hC2, _⟩
  · have HF := Lib.hid hF
    have hl := hC2.ch
    have HI := Lib.hid (IntsAt.of_own hC2.row)
    clear hF hC2
    have HLEN := Lib.hid HF.out.1.2.1
    go_wp2
    go_ret2
    refine ⟨_, _, rfl, HB4.out, .inl ⟨rfl, c, HF.out, ?_⟩⟩
    have := HI.out
    rw [List.take_zero, List.nil_append] at this
    exact this
  · have HNo := Lib.hid hNo
    clear hNo hC2
    go_wp2
    go_ret2
    exact ⟨_, _, rfl, HB4.out, .inr ⟨rfl, HNo.out, rfl⟩⟩
end Go.Proofs.Ytdplcpnahahkaaa
