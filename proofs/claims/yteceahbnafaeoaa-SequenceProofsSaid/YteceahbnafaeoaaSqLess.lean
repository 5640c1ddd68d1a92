/- slices.Clone and slices.Delete over lists of lists: one list less. -/
import Derived.Test.YteceahbnafaeoaaSqMove
import Derived.Lib.RowBridge
import Derived.Shelf.SlicesE.Kit
namespace Go.Proofs.Yteceahbnafaeoaa
set_option linter.unusedSimpArgs false
set_option linter.unusedVariables false
set_option maxRecDepth 100000
open Go.RowKit Go.Deep Go.Sort

abbrev Hd := Option Addr × Nat × Nat
def encH (h : Hd) : Value := .slice h.1 h.2.1 h.2.2
theorem encH_one : OneCell encH := fun _ => rfl
theorem info_ints : (Try.prog.info? 22).map (fun i => (i.zero, i.size, i.bytes)) = some (some (.slice none 0 0), 1, 24) := by kernel_rfl
theorem heads {w : World} {b off : Nat} {L : List (List Int)} (h : ∀ j (h : j < L.length), ∃ u, w.cell? ⟨b, off + j, none⟩ = some u ∧ IntsAt w u L[j]) :
    ∃ hs : List Hd, hs.length = L.length ∧ ∀ j (h1 : j < L.length) (h2 : j < hs.length), w.cell? ⟨b, off + j, none⟩ = some (encH hs[j]) ∧ IntsAt w (encH hs[j]) L[j] := by
  have h1 : ∀ j, ∃ e : Hd, ∀ h : j < L.length, w.cell? ⟨b, off + j, none⟩ = some (encH e) ∧ IntsAt w (encH e) L[j] := fun j => by
    by_cases hj : j < L.length
    · obtain ⟨u, q1, q2⟩ := h j hj
      obtain ⟨a, c, rfl⟩ := q2.slice
      exact ⟨(a, L[j].length, c), fun _ => ⟨q1, q2⟩⟩
    · exact ⟨(none, 0, 0), fun h => absurd h hj⟩
  refine ⟨(List.range L.length).map fun j => (h1 j).choose, by simp, fun j hj _ => ?_⟩
  have := (h1 j).choose_spec hj
  simpa using this
theorem cloneL_any (L : List (List Int)) (hl : L.length ≤ 1000000) (h0 : 0 < L.length) (v : Value) (w : World) (hv : ListsAt w v L) :
    Calls Try.prog 37 #[v] w fun e w' => ∃ u, ∃ hs : List Hd, e = .returned u ∧ w'.ownsRow w.heap.size 22 1 u L.length (hs.map encH) ∧ hs.length = L.length ∧ (∀ j (h1 : j < L.length) (h2 : j < hs.length), IntsAt w (encH hs[j]) L[j]) ∧ Below w.heap.size w w' := by
  obtain ⟨a, cap, rfl, hc⟩ := hv
  obtain ⟨b, off, rfl, hb, hcs⟩ := hc h0
  obtain ⟨hs, hlen, hh⟩ := heads hcs
  obtain ⟨i0, hi, hz0, hz1, hz2⟩ := info_parts info_ints
  refine (Try.slices_Clone_f37 i0 (.slice none 0 0) 1 24 hi hz0 hz1 hz2 rfl (by decide) (fun W => by simp [Go.sizeOf, hi, hz1]; rfl) b off L.length cap (hs.map encH) w (by simp [hlen]) (by unfold maxLen; omega) (by omega) ?_ ?_).mono fun e w' ⟨u, h1, h2, _, h3⟩ => ⟨u, hs, h1, h2, hlen, fun j q1 q2 => (hh j q1 q2).2, h3⟩
  · intro j u hu
    have hj : j < hs.length := by
      rcases Nat.lt_or_ge j hs.length with h' | h'
      · exact h'
      · rw [List.getElem?_eq_none (by rw [List.length_map]; omega)] at hu; cases hu
    rw [List.getElem?_map, List.getElem?_eq_getElem hj] at hu
    rw [(hh j (by omega) hj).1]; exact hu
  · intro u hu
    obtain ⟨h, _, rfl⟩ := List.mem_map.1 hu
    rfl
theorem deleteL_any (L : List (List Int)) (hl : L.length ≤ 1000000) (k : Nat) (hk : k < L.length) (hs : List Hd) (hlen : hs.length = L.length) (u : Value) (w0 w : World) (h0 : Below w0.heap.size w0 w)
    (hI : ∀ j (h1 : j < L.length) (h2 : j < hs.length), IntsAt w0 (encH hs[j]) L[j]) (hu : w.ownsRow w0.heap.size 22 1 u L.length (hs.map encH)) :
    Calls Try.prog 36 #[u, intV k, intV ((k + 1 : Nat) : Int)] w fun e w' => ∃ x, e = .returned x ∧ ListsAt w' x (L.eraseIdx k) ∧ Below w0.heap.size w0 w' := by
  obtain ⟨g, cap, rfl, hbg, hg⟩ := hu.form (by omega)
  obtain ⟨hcap, hm⟩ := own_cap hu
  have hm2 : cap ≤ 9223372036854775807 := by unfold maxLen at hm; exact hm
  obtain ⟨i0, hi, hz0, hz1, hz2⟩ := info_parts info_ints
  have hH : Holds encH w g 0 hs.toArray := fun j hj => by
    have hj : j < hs.length := by simpa using hj
    rw [Nat.zero_add]
    refine ⟨?_, hu.frozenAt j⟩
    rw [hu.cellAt j (by omega)]
    simp [hj]
  have hd := Try.slices_Delete_f36 encH encH_one (none, 0, 0) (fun W => by simp [zeroValue, hi, hz0]; rfl) i0 hi hz1 g 0 cap k (k + 1) hs.toArray w hH (by simp; omega) hm2 (by omega) (by simp; omega)
  simp only [List.size_toArray, hlen] at hd
  refine hd.mono fun e w' ⟨h, q, hw⟩ => ?_
  rw [show k + 1 - k = 1 by omega] at hw h
  have hlen2 : (hs.take k ++ hs.drop (k + 1) ++ List.replicate 1 ((none, 0, 0) : Hd)).length = hs.length := by
    simp only [List.length_append, List.length_take, List.length_drop, List.length_replicate]; omega
  have hw2 : w' = (w.drewN q).setCells g 0 ((hs.take k ++ hs.drop (k + 1) ++ List.replicate 1 ((none, 0, 0) : Hd)).map encH) := by
    rw [hw]
    exact Lib.putRow_eq_setCells encH w g 0 hs.toArray _ q hH (by rw [hlen2]; simp)
  have hB := Lib.below_setCells_w hbg ((hs.take k ++ hs.drop (k + 1) ++ List.replicate 1 ((none, 0, 0) : Hd)).map encH) 0 (w.drewN q)
  have hB2 : Below w0.heap.size w0 w' := by
    rw [hw2]
    exact (h0.trans (below_drewN_n _ w q)).trans hB
  have hin := World.cell?_setCells_in g ((hs.take k ++ hs.drop (k + 1) ++ List.replicate 1 ((none, 0, 0) : Hd)).map encH) 0 (w.drewN q) (fun j hj => by
    have hj : j < hs.length := by rw [List.length_map, hlen2] at hj; exact hj
    rw [show (w.drewN q).cell? ⟨g, 0 + j, none⟩ = w.cell? ⟨g, 0 + j, none⟩ from rfl, (hH j (by simpa using hj)).1]; rfl)
  have he : (L.eraseIdx k).length = L.length - 1 := by rw [List.length_eraseIdx, if_pos hk]
  refine ⟨_, h, ⟨some ⟨g, 0, none⟩, cap, by rw [he], fun _ => ⟨g, 0, rfl, ?_, fun j hj => ?_⟩⟩, hB2⟩
  · rw [hw2]; exact Nat.lt_of_lt_of_le hg hB.size
  · rw [he] at hj
    have h1 := hin j (by rw [List.length_map, hlen2]; omega)
    refine ⟨_, by rw [hw2]; exact h1, ?_⟩
    rw [List.getElem_map]
    have e1 : (hs.take k ++ hs.drop (k + 1) ++ List.replicate 1 ((none, 0, 0) : Hd))[j]'(by rw [hlen2]; omega) = (hs.eraseIdx k)[j]'(by rw [List.length_eraseIdx, if_pos (by omega)]; omega) := by
      rw [List.getElem_append_left (by simp only [List.length_append, List.length_take, List.length_drop]; omega)]
      congr 1
      exact (List.eraseIdx_eq_take_drop_succ hs k).symm
    rw [e1]
    refine IntsAt.below ?_ hB2
    rw [List.getElem_eraseIdx, List.getElem_eraseIdx]
    split
    · exact hI j (by omega) (by omega)
    · exact hI (j + 1) (by omega) (by omega)
end Go.Proofs.Yteceahbnafaeoaa
