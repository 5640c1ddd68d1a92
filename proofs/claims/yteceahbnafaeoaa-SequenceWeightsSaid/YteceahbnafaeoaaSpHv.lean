/- The search for the first heaviest subsequence: a function that refers to itself, and a row of what is known. -/
import Derived.Test.YteceahbnafaeoaaSpSub
import Derived.Test.YteceahbnafaeoaaSqRow
import Derived.Test.YteceahbnafaeoaaSqIts
import Derived.Test.YteceahbnafaeoaaSqHold
namespace Go.Proofs.Yteceahbnafaeoaa
set_option linter.unusedSimpArgs false
set_option linter.unusedVariables false
set_option maxRecDepth 100000
open Go.RowKit Go.Shelf Go.Deep

abbrev pV (b : Nat) : Value := .pointer (some ⟨b, 0, none⟩)
abbrev bhF (bl bb bh bw : Nat) : Value := .func (.func 65) #[] #[pV bl, pV bb, pV bh, pV bw]
/-- what the search works with: the lists, and the row of what is known -/
structure Hv (n : Nat) (Z : List It) (w0 : World) (bl bb bh bw G : Nat) (va vu : Value) (W : World) : Prop where
  B : Below w0.heap.size w0 W
  g0 : w0.heap.size ≤ G
  nl : bl ≠ G
  nb : bb ≠ G
  nh : bh ≠ G
  nw : bw ≠ G
  ll : bl < W.heap.size
  lb : bb < W.heap.size
  lh : bh < W.heap.size
  lw : bw < W.heap.size
  cl : W.cell? ⟨bl, 0, none⟩ = some va
  cb : W.cell? ⟨bb, 0, none⟩ = some (.slice (some ⟨G, 0, none⟩) n n)
  ch : W.cell? ⟨bh, 0, none⟩ = some (bhF bl bb bh bw)
  cw : W.cell? ⟨bw, 0, none⟩ = some vu
  memo : ∃ pm : Nat → Option Addr, RowN W G 58 n (fun j => .pointer (pm j)) ∧ ∀ j, j < n → ∀ a, pm j = some a → ∃ c z, Z.drop j = c :: z ∧ SubAt W (some a) (hd c z)
theorem Hv.below {n : Nat} {Z : List It} {w0 : World} {bl bb bh bw G : Nat} {va vu : Value} {W W' : World} (h : Hv n Z w0 bl bb bh bw G va vu W) (hB : Below W.heap.size W W') : Hv n Z w0 bl bb bh bw G va vu W' := by
  obtain ⟨pm, h1, h2⟩ := h.memo
  have e : ∀ b, b < W.heap.size → W'.cell? ⟨b, 0, none⟩ = W.cell? ⟨b, 0, none⟩ := fun b hb => hB.cell (p := ⟨b, 0, none⟩) hb
  exact ⟨below_then h.B hB, h.g0, h.nl, h.nb, h.nh, h.nw, Nat.lt_of_lt_of_le h.ll hB.size, Nat.lt_of_lt_of_le h.lb hB.size, Nat.lt_of_lt_of_le h.lh hB.size, Nat.lt_of_lt_of_le h.lw hB.size,
    (e _ h.ll).trans h.cl, (e _ h.lb).trans h.cb, (e _ h.lh).trans h.ch, (e _ h.lw).trans h.cw, pm, h1.below hB, fun j hj a ha => by
      obtain ⟨c, z, e1, e2⟩ := h2 j hj a ha
      exact ⟨c, z, e1, e2.below hB⟩⟩
theorem cell_set_other {W : World} {g place b j : Nat} {v : Value} (h : b ≠ g) : (W.setCell ⟨g, place, none⟩ v).cell? ⟨b, j, none⟩ = W.cell? ⟨b, j, none⟩ := by
  unfold World.cell?
  rw [Below.heap_setCell W ⟨g, place, none⟩ v b h]
theorem ptr_ne_sub : 58 ≠ 82 := by decide
theorem RowN.subKeeps {W : World} {g n i : Nat} {f : Nat → Value} {v : Value} (h : RowN W g 58 n f) : SubKeeps W (W.setCell ⟨g, i, none⟩ v) := by
  obtain ⟨cap, F, h1, _⟩ := h
  exact SubKeeps.store h1 ptr_ne_sub
theorem Hv.set {n : Nat} {Z : List It} {w0 : World} {bl bb bh bw G : Nat} {va vu : Value} {W : World} (h : Hv n Z w0 bl bb bh bw G va vu W) {i : Nat} {p : Option Addr} {c : It} {z : List It} (hz : Z.drop i = c :: z) (hp : SubAt W p (hd c z)) :
    Hv n Z w0 bl bb bh bw G va vu (W.setCell ⟨G, i, none⟩ (.pointer p)) ∧ SubKeeps W (W.setCell ⟨G, i, none⟩ (.pointer p)) := by
  obtain ⟨pm, h1, h2⟩ := h.memo
  have hk := h1.subKeeps (i := i) (v := .pointer p)
  have hs : ∀ b, b < W.heap.size → b < (W.setCell ⟨G, i, none⟩ (.pointer p)).heap.size := fun b hb => by simpa [World.setCell] using hb
  refine ⟨⟨h.B.setCell h.g0 _, h.g0, h.nl, h.nb, h.nh, h.nw, hs _ h.ll, hs _ h.lb, hs _ h.lh, hs _ h.lw, ?_, ?_, ?_, ?_, fun j => if j = i then p else pm j, ?_, fun j hj a ha => ?_⟩, hk⟩
  · rw [cell_set_other h.nl]; exact h.cl
  · rw [cell_set_other h.nb]; exact h.cb
  · rw [cell_set_other h.nh]; exact h.ch
  · rw [cell_set_other h.nw]; exact h.cw
  · exact (h1.set i (.pointer p)).congr fun j hj => by by_cases e : j = i <;> simp [e]
  · by_cases e : j = i
    · subst e
      simp only [if_true] at ha
      subst ha
      exact ⟨c, z, hz, hp.kept hk⟩
    · simp only [if_neg e] at ha
      obtain ⟨c, z, e1, e2⟩ := h2 j hj a ha
      exact ⟨c, z, e1, e2.kept hk⟩
/-- the bound in front of index m -/
def bnd (l : List Int) (m : Nat) : Option Int := if m = 0 then none else some (at0 l ((m : Int) - 1))
theorem bnd_succ (l : List Int) (i : Nat) : bnd l (i + 1) = some (at0 l i) := by
  unfold bnd
  rw [if_neg (by omega)]
  congr 2
  omega
def BhPost (n : Nat) (Z : List It) (w0 : World) (bl bb bh bw G : Nat) (va vu : Value) (W : World) (s : List It) (e : Ending) (W' : World) : Prop :=
  ∃ q, e = .returned (.pointer q) ∧ Hv n Z w0 bl bb bh bw G va vu W' ∧ SubAt W' q s ∧ SubKeeps W W'
theorem wt_hd_bound (l ws : List Int) (hl : l.length ≤ 1024) (hlen : l.length = ws.length) (hw : ∀ x ∈ ws, 0 ≤ x ∧ x ≤ 1048576) {i : Nat} {c : It} {z : List It} (h : (its 0 l (toW ws)).drop i = c :: z) : wt (hd c z) ≤ 1073741824 := by
  have ha : AscI 0 (its 0 l (toW ws)) := asc_its _ _ _
  have h1 : (c :: z).Sublist (its 0 l (toW ws)) := by rw [← h]; exact List.drop_sublist _ _
  have h2 : AscI 0 (c :: z) := asc_sub h1 ha
  have h3 := hd_wt c z h2.2
  have h4 := best_wt z (some c.v)
  have h5 := wt_drop (its 0 l (toW ws)) i
  rw [h] at h5
  have e : wt (c :: z) = c.w + wt z := by simp [wt]
  have h6 := wt_its 1048576 0 l (toW ws) (fun x hx => by
    obtain ⟨y, hy, rfl⟩ := List.mem_map.1 hx
    have := hw y hy; omega)
  have h7 : 1048576 * l.length ≤ 1048576 * 1024 := Nat.mul_le_mul_left _ hl
  omega
theorem scan_step (b : Option Int) (acc : List It) (c : It) (z : List It) : scan b acc (c :: z) = if gt b c.v = true ∧ wt acc < wt (hd c z) then scan b (hd c z) z else scan b acc z := rfl
theorem item_drop (l ws : List Int) (h : l.length = ws.length) (i : Nat) (hi : i < l.length) : ∃ c : It, (its 0 l (toW ws)).drop i = c :: (its 0 l (toW ws)).drop (i + 1) ∧ c.i = i ∧ c.v = at0 l i ∧ c.w = (ws.getD i 0).toNat := by
  have hw : l.length = (toW ws).length := by rw [toWlen]; exact h
  have hlen := its_len 0 l (toW ws) hw
  have hk2 : i < (its 0 l (toW ws)).length := by omega
  obtain ⟨a, b, c⟩ := its_get 0 l (toW ws) i hk2 hw
  refine ⟨_, List.drop_eq_getElem_cons hk2, by omega, ?_, ?_⟩
  · rw [b]; unfold at0; rw [Int.toNat_natCast]
  · rw [c, List.getD_eq_getElem?_getD, List.getD_eq_getElem?_getD]
    unfold toW
    rw [List.getElem?_map, List.getElem?_eq_getElem (show i < ws.length by omega)]
    rfl
end Go.Proofs.Yteceahbnafaeoaa
