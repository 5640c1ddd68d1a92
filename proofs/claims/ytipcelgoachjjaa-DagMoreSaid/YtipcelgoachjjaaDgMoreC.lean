/- Links that are copied; slices.Clone of links. -/
import Derived.Test.YtipcelgoachjjaaDgAll
import Derived.Test.YtipcelgoachjjaaDgVerM
namespace Go.Proofs.Ytipcelgoachjjaa
set_option linter.unusedSimpArgs false
set_option linter.unusedVariables false
set_option maxRecDepth 100000
open Go.RowKit Go.Deep

theorem info_link : (Try.prog.info? 52).map (fun i => (i.zero, i.size, i.bytes)) = some (some (.agg #[.int .i64 0, .int .i64 0, .int .i64 0]), 3, 24) := by kernel_rfl
def cellsV : List LkV → List Value
  | [] => []
  | x :: r => intV x.f :: intV x.t :: intV x.c :: cellsV r
theorem cellsV_len : ∀ ls : List LkV, (cellsV ls).length = ls.length * 3
  | [] => rfl
  | x :: r => by rw [cellsV, List.length_cons, List.length_cons, List.length_cons, cellsV_len r, List.length_cons]; omega
theorem cellsV_app : ∀ a b : List LkV, cellsV (a ++ b) = cellsV a ++ cellsV b
  | [], b => rfl
  | x :: r, b => by rw [List.cons_append, cellsV, cellsV_app r b, cellsV]; rfl
theorem cellsV_get : ∀ (ls : List LkV) (j : Nat), j < ls.length → (cellsV ls)[j * 3]? = some (intV (lk ls j).f) ∧ (cellsV ls)[j * 3 + 1]? = some (intV (lk ls j).t) ∧ (cellsV ls)[j * 3 + 2]? = some (intV (lk ls j).c)
  | [], j, h => by simp at h
  | x :: r, 0, h => ⟨rfl, rfl, rfl⟩
  | x :: r, j + 1, h => by
    have hj : j < r.length := by simpa using h
    have h1 := cellsV_get r j hj
    have e : lk (x :: r) (j + 1) = lk r j := by rw [lk_get h, lk_get hj]; rfl
    rw [e, cellsV, show (j + 1) * 3 = j * 3 + 1 + 1 + 1 by omega]
    exact h1
theorem cellsV_one : ∀ (ls : List LkV), ∀ u ∈ cellsV ls, u.oneCell' = true
  | [], u, h => by simp [cellsV] at h
  | x :: r, u, h => by
    rw [cellsV] at h
    rcases List.mem_cons.1 h with rfl | h
    · rfl
    · rcases List.mem_cons.1 h with rfl | h
      · rfl
      · rcases List.mem_cons.1 h with rfl | h
        · rfl
        · exact cellsV_one r u h
theorem cellsV_at {ls : List LkV} {j : Nat} {u : Value} (h : (cellsV ls)[j]? = some u) : ∃ q r, j = q * 3 + r ∧ q < ls.length ∧ ((r = 0 ∧ u = intV (lk ls q).f) ∨ (r = 1 ∧ u = intV (lk ls q).t) ∨ (r = 2 ∧ u = intV (lk ls q).c)) := by
  have hj := (List.getElem?_eq_some_iff.1 h).1
  rw [cellsV_len] at hj
  have hq : j / 3 < ls.length := by omega
  obtain ⟨h0, h1, h2⟩ := cellsV_get ls (j / 3) hq
  refine ⟨j / 3, j % 3, by omega, hq, ?_⟩
  rcases (show j % 3 = 0 ∨ j % 3 = 1 ∨ j % 3 = 2 by omega) with e | e | e
  · rw [show j = j / 3 * 3 by omega, h0] at h
    exact .inl ⟨e, (Option.some.inj h).symm⟩
  · rw [show j = j / 3 * 3 + 1 by omega, h1] at h
    exact .inr (.inl ⟨e, (Option.some.inj h).symm⟩)
  · rw [show j = j / 3 * 3 + 2 by omega, h2] at h
    exact .inr (.inr ⟨e, (Option.some.inj h).symm⟩)
theorem links_own {W : World} {base : Nat} {v : Value} {ls : List LkV} (h : W.ownsRow base 52 3 v ls.length (cellsV ls)) : LinksAt W v ls := by
  rcases h.2 with ⟨rfl, h0⟩ | ⟨g, cap, cur, rfl, _⟩
  · exact ⟨none, 0, by rw [h0], fun h => by omega⟩
  · refine ⟨some ⟨g, 0, none⟩, cap, rfl, fun h0 => ⟨g, 0, rfl, (h.lt g rfl).2, fun j hj => ?_⟩⟩
    obtain ⟨h1, h2, h3⟩ := cellsV_get ls j hj
    have a1 := h.cells (g := g) rfl _ _ h1
    have a2 := h.cells (g := g) rfl _ _ h2
    have a3 := h.cells (g := g) rfl _ _ h3
    rw [addr_more] at a1 a2 a3
    exact ⟨a1, a2, a3⟩
theorem links_cells {W : World} {ad : Addr} {n c : Nat} {ls : List LkV} (h : LinksAt W (.slice (some ad) n c) ls) : ∀ j u, (cellsV ls)[j]? = some u → W.cell? (ad.add j) = some u := by
  intro j u hj
  obtain ⟨q, r, rfl, hq, hu⟩ := cellsV_at hj
  obtain ⟨b, off, e, _, h1, h2, h3⟩ := h.elem hq
  cases e
  rw [addr_more, ← Nat.add_assoc]
  rcases hu with ⟨rfl, rfl⟩ | ⟨rfl, rfl⟩ | ⟨rfl, rfl⟩
  · exact h1
  · exact h2
  · exact h3
set_option maxHeartbeats 1000000 in
theorem cloneL_any (ls : List LkV) (hl : ls.length * 24 ≤ 140737488351232) (v : Value) (w : World) (hv : LinksAt w v ls) :
    Calls Try.prog 38 #[v] w fun e w' => ∃ v', e = .returned v' ∧ w'.ownsRow w.heap.size 52 3 v' ls.length (cellsV ls) ∧ Below w.heap.size w w' := by
  obtain ⟨i0, hi, hz0, hz1, hz2⟩ := info_parts info_link
  have HV := Lib.hid hv
  obtain ⟨a, cap, rfl⟩ := hv.slice
  cases a with
  | none =>
    have h0 : ls = [] := by
      obtain ⟨a', c', e, hc⟩ := hv
      cases e
      rcases Nat.eq_zero_or_pos ls.length with h | h
      · exact List.length_eq_zero_iff.1 h
      · obtain ⟨b, off, e1, _⟩ := hc h
        cases e1
    subst h0
    have hnil : ∀ W, Sem.run Try.prog (binOp .eql 22 (.slice none 0 cap) (.slice none 0 0)) W = .ok (.bool true) W := fun W => Lib.run_eql_slice_nil W 22 52 _ _ _ 0 0 Try.underlying22
    clear hv HV
    go_enter Try.func38, Try.ntmps38
    go_wp2
    go_ret
    exact ⟨_, rfl, ⟨rfl, .inl ⟨rfl, rfl⟩⟩, Below.refl _ _⟩
  | some ad =>
    have hnil : ∀ W, Sem.run Try.prog (binOp .eql 22 (.slice (some ad) ls.length cap) (.slice none 0 0)) W = .ok (.bool false) W := fun W => Lib.run_eql_slice_nil W 22 52 _ _ _ 0 0 Try.underlying22
    have HE := Lib.hid (World.ownsRow_lit (base := w.heap.size) (e := 52) (size := 3) w #[] 0 (Nat.le_refl _) (by simp [maxLen]) rfl)
    have HC := Lib.hid (links_cells (hv.below (alloc_below w (.cells #[] 52))))
    have HLN := Lib.hid (cellsV_len ls)
    have HON := Lib.hid (cellsV_one ls)
    clear hv
    go_enter Try.func38, Try.ntmps38
    go_wp2_with (at_builtin; refine wpList_append_own _ rfl _ _ 22 rfl w.heap.size 52 i0 (.agg #[.int .i64 0, .int .i64 0, .int .i64 0]) 3 24 Try.underlying22 hi hz0 hz1 hz2 rfl (by decide) (.slice (some ⟨w.heap.size, 0, none⟩) 0 0) 0 [] rfl HE.out ad ls.length cap (cellsV ls) rfl HLN.out HC.out HON.out (by unfold maxLen; omega) (by omega) (by simp) ?_
                 intro v1 w4 hown1 hgrow1 hnn
                 have HO := Lib.hid (show w4.ownsRow w.heap.size 52 3 v1 ls.length (cellsV ls) by simpa using hown1)
                 have HB := Lib.hid ((alloc_below w (.cells #[] 52)).grown hgrow1 (by simp) (fun k e => by cases e; exact Nat.le_refl _))
                 clear hown1 hgrow1 hnn)
    go_ret
    exact ⟨_, rfl, HO.out, HB.out⟩
end Go.Proofs.Ytipcelgoachjjaa
