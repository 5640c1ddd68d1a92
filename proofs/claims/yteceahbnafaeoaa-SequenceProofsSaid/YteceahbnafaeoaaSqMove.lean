/- slices.Delete and slices.Insert over lists of integers: one element. -/
import Derived.Test.YteceahbnafaeoaaSqRefPerm
namespace Go.Proofs.Yteceahbnafaeoaa
set_option linter.unusedSimpArgs false
set_option linter.unusedVariables false
set_option maxRecDepth 100000
open Go.RowKit Go.Deep

/-- a row of n places that holds one element less -/
structure Room (W : World) (g cap n : Nat) (cs : List Int) : Prop where
  lt : g < W.heap.size
  room : n ≤ cap
  small : cap ≤ maxLen
  len : cs.length + 1 = n
  cell : ∀ j (h : j < cs.length), W.cell? ⟨g, j, none⟩ = some (intV cs[j])
  some : ∀ j, j < n → (W.cell? ⟨g, j, none⟩).isSome = true
  free : ∀ j, W.frozen? ⟨g, j, none⟩ = false
theorem Room.below {W W' : World} {g cap n : Nat} {cs : List Int} (h : Room W g cap n cs) (hB : Below W.heap.size W W') : Room W' g cap n cs := by
  have hb := hB.block g h.lt
  refine ⟨Nat.lt_of_lt_of_le h.lt hB.size, h.room, h.small, h.len, fun j hj => (World.cell?_of_block (a := ⟨g, j, none⟩) hb).trans (h.cell j hj), fun j hj => ?_, fun j => ?_⟩
  · rw [World.cell?_of_block (a := ⟨g, j, none⟩) hb]; exact h.some j hj
  · rw [← h.free j]
    unfold World.frozen?
    simp only
    rw [hb]
theorem own_cap {w : World} {B g n cap : Nat} {e : TypeId} {xs : List Value} (h : w.ownsRow B e 1 (.slice (some ⟨g, 0, none⟩) n cap) n xs) : n ≤ cap ∧ cap ≤ maxLen := by
  rcases h.2 with ⟨h0, _⟩ | ⟨g', cap', cur, e', _, _, h1, h2, _⟩
  · cases h0
  · cases e'; exact ⟨h1, h2⟩
theorem delete_any (l : List Int) (hl : l.length ≤ 1000000) (i : Nat) (hi : i < l.length) (B : Nat) (u : Value) (w : World) (hu : w.ownsRow B 3 1 u l.length (l.map intV)) :
    Calls Try.prog 42 #[u, intV i, intV ((i + 1 : Nat) : Int)] w fun e w' => ∃ g cap, e = .returned (.slice (some ⟨g, 0, none⟩) (l.length - 1) cap) ∧ Room w' g cap l.length (l.eraseIdx i) ∧ B ≤ g ∧ Below B w w' := by
  obtain ⟨g, cap, rfl, hbg, hg⟩ := hu.form (by omega)
  obtain ⟨hcap, hm⟩ := own_cap hu
  have hm2 : cap ≤ 9223372036854775807 := by unfold maxLen at hm; exact hm
  have hcg : ∀ j, j < l.length → w.cell? ⟨g, 0 + j, none⟩ = some (.int .i64 (l.getD j 0)) := fun j hj => by
    rw [Nat.zero_add, hu.cellAt j (by omega)]; simp [hj, List.getD_eq_getElem?_getD]
  refine (Try.slices_Delete_int_cells g 0 l.length cap i (i + 1) l w (Nat.le_refl _) hcap hm2 (by omega) (by omega) hcg (fun j _ => by rw [Nat.zero_add]; exact hu.frozenAt j)).mono fun e w' ⟨h, q, hw⟩ => ?_
  rw [List.take_length, show i + 1 - i = 1 by omega] at hw
  have hlen : ((l.take i ++ l.drop (i + 1) ++ List.replicate 1 0).map (Value.int .i64)).length = l.length := by
    simp only [List.length_map, List.length_append, List.length_take, List.length_drop, List.length_replicate]; omega
  have hB := Lib.below_setCells_w hbg ((l.take i ++ l.drop (i + 1) ++ List.replicate 1 0).map (Value.int .i64)) 0 (w.drewN q)
  have hin := World.cell?_setCells_in g ((l.take i ++ l.drop (i + 1) ++ List.replicate 1 0).map (Value.int .i64)) 0 (w.drewN q) (fun j hj => by
    rw [show (w.drewN q).cell? ⟨g, 0 + j, none⟩ = w.cell? ⟨g, 0 + j, none⟩ from rfl, hcg j (by omega)]; rfl)
  refine ⟨g, cap, by rw [h, show i + 1 - i = 1 by omega], ⟨?_, hcap, hm, ?_, fun j hj => ?_, fun j hj => ?_, fun j => ?_⟩, hbg, ?_⟩
  · rw [hw]; exact Nat.lt_of_lt_of_le hg hB.size
  · rw [List.length_eraseIdx, if_pos hi]; omega
  · rw [List.length_eraseIdx, if_pos hi] at hj
    have h1 := hin j (by omega)
    rw [Nat.zero_add] at h1
    rw [hw, h1]
    have he : (l.eraseIdx i)[j]'(by rw [List.length_eraseIdx, if_pos hi]; exact hj) = (l.take i ++ l.drop (i + 1) ++ List.replicate 1 0)[j]'(by simp only [List.length_append, List.length_take, List.length_drop, List.length_replicate]; omega) := by
      rw [List.getElem_append_left (by simp only [List.length_append, List.length_take, List.length_drop]; omega)]
      congr 1
      exact List.eraseIdx_eq_take_drop_succ l i
    rw [he, List.getElem_map]
  · have h1 := hin j (by omega)
    rw [Nat.zero_add] at h1
    rw [hw, h1]; rfl
  · rw [hw, World.frozen?_setCells]
    exact hu.frozenAt j
  · rw [hw]
    exact (below_drewN_n B w q).trans hB
theorem insert_any (g cap n : Nat) (cs : List Int) (k : Nat) (hk : k < n) (x : Int) (vb : Nat) (w : World) (hR : Room w g cap n cs) (hvb : vb ≠ g) (hx : w.cell? ⟨vb, 0, none⟩ = some (intV x)) (hfx : ∀ j, w.frozen? ⟨vb, j, none⟩ = false) (B : Nat) (hB : B ≤ g) :
    Calls Try.prog 43 #[.slice (some ⟨g, 0, none⟩) (n - 1) cap, intV k, .slice (some ⟨vb, 0, none⟩) 1 1] w fun e w' => e = .returned (.slice (some ⟨g, 0, none⟩) n cap) ∧ IntsAt w' (.slice (some ⟨g, 0, none⟩) n cap) (cs.take k ++ x :: cs.drop k) ∧ Below B w w' := by
  have hlen := hR.len
  have hlen2 : (cs.take k ++ x :: cs.drop k).length = n := by rw [List.length_append, List.length_cons, List.length_take, List.length_drop]; omega
  have hm2 : cap ≤ 9223372036854775807 := by have := hR.small; unfold maxLen at this; exact this
  have hvs : ∀ j v, [intV x][j]? = some v → w.cell? ⟨vb, 0 + j, none⟩ = some v := fun j v h => by
    match j, h with
    | 0, h => simp at h; rw [← h]; exact hx
  by_cases hlt : k < n - 1
  · obtain ⟨tA, kA, hsa, _, _⟩ := World.shape?_of_cell? hx
    obtain ⟨tB, kB, hsb, hkB, _⟩ := World.shape?_of_cell? (hR.cell 0 (by omega))
    refine (Try.slices_Insert_int_shift g 0 (n - 1) cap k vb 0 1 1 (cs.map intV) [intV x] w hlt (by omega) (by have := hR.room; omega) hm2 hvb (by rw [List.length_map]; omega) rfl ?_ ?_ ?_ hvs ?_ ?_ tA tB kA kB hsa hsb ?_ (hfx 0) (hfx kA)).mono fun e w' ⟨h1, h2⟩ => ?_
    · intro j v h
      rw [Nat.zero_add]
      have hj : j < cs.length := by
        rcases Nat.lt_or_ge j cs.length with h' | h'
        · exact h'
        · rw [List.getElem?_eq_none (by rw [List.length_map]; omega)] at h; cases h
      rw [hR.cell j hj]
      rw [List.getElem?_map, List.getElem?_eq_getElem hj] at h
      exact h
    · intro j hj; rw [Nat.zero_add]; exact hR.some j (by omega)
    · intro j hj; rw [Nat.zero_add]; exact hR.free j
    · intro v hv
      obtain ⟨y, _, rfl⟩ := List.mem_map.1 hv
      rfl
    · intro v hv
      simp at hv; subst hv; rfl
    · have : (0 : Nat) < kB := hkB
      omega
    · rw [show n - 1 + 1 = n by omega] at h1
      rw [Nat.zero_add, Nat.zero_add] at h2
      have hB1 := Lib.below_setCells_w hB ((cs.map intV).drop k) (k + 1) w.drew
      have hB2 := Lib.below_setCells_w hB [intV x] k (w.drew.setCells g (k + 1) ((cs.map intV).drop k))
      have hs1 : ∀ j, j < n → ((w.drew.setCells g (k + 1) ((cs.map intV).drop k)).cell? ⟨g, j, none⟩).isSome = true := fun j hj => by
        by_cases hq : j < k + 1 ∨ k + 1 + ((cs.map intV).drop k).length ≤ j
        · rw [World.cell?_setCells_out g _ _ _ ⟨g, j, none⟩ (fun _ _ => hq)]; exact hR.some j hj
        · have := World.cell?_setCells_in g ((cs.map intV).drop k) (k + 1) w.drew (fun i hi => by
            rw [List.length_drop, List.length_map] at hi
            exact hR.some (k + 1 + i) (by omega)) (j - (k + 1)) (by omega)
          rw [show k + 1 + (j - (k + 1)) = j by omega] at this
          rw [this]; rfl
      refine ⟨h1, ⟨some ⟨g, 0, none⟩, cap, by rw [hlen2], fun _ => ⟨g, 0, rfl, ?_, fun j hj => ?_⟩⟩, ?_⟩
      · rw [h2]; exact Nat.lt_of_lt_of_le (Nat.lt_of_lt_of_le (show g < w.drew.heap.size from hR.lt) hB1.size) hB2.size
      · rw [hlen2] at hj
        rw [Nat.zero_add, h2]
        by_cases hjk : j = k
        · subst hjk
          have h9 : ((w.drew.setCells g (j + 1) ((cs.map intV).drop j)).setCells g j [intV x]).cell? ⟨g, j, none⟩ = Option.some (intV x) := World.cell?_setCells_in g [intV x] j (w.drew.setCells g (j + 1) ((cs.map intV).drop j)) (fun i hi => by
            have hi : i < 1 := hi
            exact hs1 (j + i) (by omega)) 0 (by simp)
          rw [h9, List.getElem_append_right (by rw [List.length_take]; omega)]
          simp [List.length_take, show min j cs.length = j by omega]
        · rw [World.cell?_setCells_out g _ _ _ ⟨g, j, none⟩ (fun _ _ => by show j < k ∨ k + 1 ≤ j; omega)]
          by_cases hq : j < k
          · rw [World.cell?_setCells_out g _ _ _ ⟨g, j, none⟩ (fun _ _ => by show j < k + 1 ∨ _; omega)]
            rw [show w.drew.cell? ⟨g, j, none⟩ = w.cell? ⟨g, j, none⟩ from rfl, hR.cell j (by omega), List.getElem_append_left (by rw [List.length_take]; omega), List.getElem_take]
          · have := World.cell?_setCells_in g ((cs.map intV).drop k) (k + 1) w.drew (fun i hi => by
              rw [List.length_drop, List.length_map] at hi
              exact hR.some (k + 1 + i) (by omega)) (j - (k + 1)) (by rw [List.length_drop, List.length_map]; omega)
            rw [show k + 1 + (j - (k + 1)) = j by omega] at this
            rw [this, List.getElem_append_right (by rw [List.length_take]; omega)]
            have e1 : j - (cs.take k).length = (j - (k + 1)) + 1 := by rw [List.length_take]; omega
            simp only [e1, List.getElem_cons_succ, List.getElem_drop, List.getElem_map]
      · rw [h2]
        exact ((below_drew1 B w).trans hB1).trans hB2
  · obtain rfl : k = n - 1 := by omega
    refine (Try.slices_Insert_int_end_room g 0 (n - 1) cap vb 0 1 1 [intV x] w (by omega) (by have := hR.room; omega) hm2 rfl ?_ ?_ hvs ?_).mono fun e w' ⟨h1, h2⟩ => ?_
    · intro j hj; rw [Nat.zero_add]; exact hR.some _ (by omega)
    · intro j hj; rw [Nat.zero_add]; exact hR.free _
    · intro v hv
      simp at hv; subst hv; rfl
    · rw [show n - 1 + 1 = n by omega] at h1
      rw [Nat.zero_add] at h2
      have hB2 := Lib.below_setCells_w hB [intV x] (n - 1) w
      refine ⟨h1, ⟨some ⟨g, 0, none⟩, cap, by rw [hlen2], fun _ => ⟨g, 0, rfl, ?_, fun j hj => ?_⟩⟩, ?_⟩
      · rw [h2]; exact Nat.lt_of_lt_of_le hR.lt hB2.size
      · rw [hlen2] at hj
        rw [Nat.zero_add, h2]
        by_cases hjk : j = n - 1
        · subst hjk
          have h9 : (w.setCells g (n - 1) [intV x]).cell? ⟨g, n - 1, none⟩ = Option.some (intV x) := World.cell?_setCells_in g [intV x] (n - 1) w (fun i hi => by
            have hi : i < 1 := hi
            exact hR.some (n - 1 + i) (by omega)) 0 (by simp)
          rw [h9, List.getElem_append_right (by rw [List.length_take]; omega)]
          simp [List.length_take, show min (n - 1) cs.length = n - 1 by omega]
        · rw [World.cell?_setCells_out g _ _ _ ⟨g, j, none⟩ (fun _ _ => by show j < n - 1 ∨ _; omega)]
          rw [hR.cell j (by omega), List.getElem_append_left (by rw [List.length_take]; omega), List.getElem_take]
      · rw [h2]
        exact hB2
end Go.Proofs.Yteceahbnafaeoaa
