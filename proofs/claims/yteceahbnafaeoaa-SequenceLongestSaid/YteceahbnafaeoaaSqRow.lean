/- A row of one cell an element, by a function; what makes a list of numbers no permutation. -/
import Derived.Test.YteceahbnafaeoaaSqLib
import Derived.StillTailTactics
import Derived.Deep.OwnRows
namespace Go.Proofs.Yteceahbnafaeoaa
set_option linter.unusedSimpArgs false
set_option linter.unusedVariables false
set_option maxRecDepth 100000
open Go.RowKit Go.Deep

def RowN (W : World) (g : Nat) (t : TypeId) (n : Nat) (f : Nat → Value) : Prop := ∃ cap F, W.rowIs g t cap F ∧ n ≤ cap ∧ ∀ j, j < n → F j = f j
theorem RowN.cell {W : World} {g n j : Nat} {t : TypeId} {f : Nat → Value} (h : RowN W g t n f) (hj : j < n) : W.cell? ⟨g, j, none⟩ = some (f j) := by
  obtain ⟨cap, F, h1, h2, h3⟩ := h
  rw [← h3 j hj]; exact h1.cell (by omega)
theorem RowN.frozen {W : World} {g n : Nat} {t : TypeId} {f : Nat → Value} (h : RowN W g t n f) (j : Nat) : W.frozen? ⟨g, j, none⟩ = false := by
  obtain ⟨cap, F, h1, _⟩ := h
  exact h1.frozen j
theorem RowN.lt {W : World} {g n : Nat} {t : TypeId} {f : Nat → Value} (h : RowN W g t n f) : g < W.heap.size := by
  obtain ⟨cap, F, h1, _⟩ := h
  exact h1.lt
theorem RowN.set {W : World} {g n : Nat} {t : TypeId} {f : Nat → Value} (h : RowN W g t n f) (i : Nat) (v : Value) : RowN (W.setCell ⟨g, i, none⟩ v) g t n fun j => if j = i then v else f j := by
  obtain ⟨cap, F, h1, h2, h3⟩ := h
  exact ⟨cap, _, h1.set i v, h2, fun j hj => by rw [h3 j hj]⟩
theorem RowN.congr {W : World} {g n : Nat} {t : TypeId} {f f' : Nat → Value} (h : RowN W g t n f) (e : ∀ j, j < n → f j = f' j) : RowN W g t n f' := by
  obtain ⟨cap, F, h1, h2, h3⟩ := h
  exact ⟨cap, F, h1, h2, fun j hj => (h3 j hj).trans (e j hj)⟩
theorem RowN.of_block {W W' : World} {g n : Nat} {t : TypeId} {f : Nat → Value} (h : RowN W g t n f) (e : W'.heap[g]? = W.heap[g]?) : RowN W' g t n f := by
  obtain ⟨cap, F, h1, h2⟩ := h
  exact ⟨cap, F, h1.of_block e, h2⟩
theorem RowN.alloc {W : World} {g n : Nat} {t : TypeId} {f : Nat → Value} (h : RowN W g t n f) (o : Obj) : RowN (W.alloc o) g t n f := h.of_block (blk_alloc_lt _ _ _ h.lt)
theorem RowN.drewN {W : World} {g n : Nat} {t : TypeId} {f : Nat → Value} (h : RowN W g t n f) (m : Nat) : RowN (W.drewN m) g t n f := h.of_block rfl
theorem RowN.below {W W' : World} {g n : Nat} {t : TypeId} {f : Nat → Value} (h : RowN W g t n f) (hB : Below W.heap.size W W') : RowN W' g t n f := h.of_block (hB.block _ h.lt)
theorem RowN.of_row {W : World} {g n : Nat} {t : TypeId} {f : Nat → Value} (h : W.rowIs g t n f) : RowN W g t n f := ⟨n, f, h, Nat.le_refl _, fun _ _ => rfl⟩
theorem RowN.of_own {W : World} {base n : Nat} {t : TypeId} {v : Value} {xs : List Value} (h : W.ownsRow base t 1 v n xs) (hn : 0 < n) : ∃ g cap, v = .slice (some ⟨g, 0, none⟩) n cap ∧ base ≤ g ∧ RowN W g t n fun j => xs.getD j undef := by
  obtain ⟨h0, h⟩ := h
  rcases h with ⟨_, h⟩ | ⟨g, cap, cur, rfl, hb, hg, hc, _, hs, ht⟩
  · omega
  · refine ⟨g, cap, rfl, hb, cap, fun j => cur.getD j undef, ⟨cur, hg, by omega, fun j hj => by simp [Array.getElem?_eq_getElem (show j < cur.size by omega)]⟩, hc, fun j hj => ?_⟩
    have hj1 : j < cur.toList.length := by rw [Array.length_toList]; omega
    show cur.getD j undef = xs.getD j undef
    rw [← ht, Nat.mul_one, List.getD_eq_getElem?_getD, List.getElem?_take, if_pos hj]
    simp
theorem RowN.ints {W : World} {g n cap : Nat} {t : TypeId} {f : Nat → Value} {xs : List Int} (h : RowN W g t n f) (hl : xs.length = n) (he : ∀ j (hj : j < xs.length), f j = intV xs[j]) : IntsAt W (.slice (some ⟨g, 0, none⟩) n cap) xs := by
  subst hl
  exact ⟨_, cap, rfl, fun _ => ⟨g, 0, rfl, h.lt, fun j hj => by
    have := h.cell hj
    rw [he j hj] at this
    rw [Nat.zero_add]; exact this⟩⟩
theorem info_bool : (Try.prog.info? 4).map (fun i => (i.zero, i.size, i.bytes)) = some (some (.bool false), 1, 1) := by kernel_rfl
theorem perm_take {l : List Int} {k : Nat} (hk : k < l.length) (h1 : (l.take k).all (inB l) = true) (h2 : (l.take k).Nodup) (hi : inB l l[k] = true) (hn : l[k] ∉ l.take k) : (l.take (k + 1)).all (inB l) = true ∧ (l.take (k + 1)).Nodup := by
  rw [take_succ_int l k hk, List.all_append]
  refine ⟨by simp [h1, hi], List.nodup_append.2 ⟨h2, by simp, fun a ha b hb => ?_⟩⟩
  simp at hb
  subst hb
  exact fun e => hn (e ▸ ha)
theorem perm_out {l : List Int} {k : Nat} (hk : k < l.length) (hi : inB l l[k] = false) : permB l = false := by
  unfold permB
  have : l.all (fun x => inB l x) = false := by
    rw [List.all_eq_false]
    exact ⟨l[k], List.getElem_mem hk, by rw [hi]; decide⟩
  rw [this]; rfl
theorem perm_twice {l : List Int} {k : Nat} (hk : k < l.length) (hn : l[k] ∈ l.take k) : permB l = false := by
  unfold permB
  rw [Bool.and_eq_false_iff]
  right
  rw [decide_eq_false_iff_not]
  intro h
  obtain ⟨j, hj, e⟩ := List.getElem_of_mem hn
  rw [List.getElem_take] at e
  rw [List.length_take] at hj
  have := (List.nodup_iff_pairwise_ne.1 h)
  have := List.pairwise_iff_getElem.1 this j k (by omega) hk (by omega)
  exact this e
end Go.Proofs.Yteceahbnafaeoaa
