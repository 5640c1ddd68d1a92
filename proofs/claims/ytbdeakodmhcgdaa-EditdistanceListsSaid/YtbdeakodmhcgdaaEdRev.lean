/- slices.Reverse of edits that the call owns. -/
import Derived.Test.YtbdeakodmhcgdaaEdChain
namespace Go.Proofs.Ytbdeakodmhcgdaa
set_option linter.unusedSimpArgs false
set_option linter.unusedVariables false
set_option maxRecDepth 100000
open Go.RowKit Go.Deep

theorem flat_set : ∀ (es : List EdV) (i : Nat) (e : EdV), i < es.length → (((es.flatMap cellsE3).set (i * 3) (.int .i64 e.place)).set (i * 3 + 1) (.int .i64 e.len)).set (i * 3 + 2) (.string e.text) = (es.set i e).flatMap cellsE3
  | [], i, e, h => absurd h (by simp)
  | x :: es, 0, e, _ => by simp [List.flatMap_cons, cellsE3]
  | x :: es, i + 1, e, h => by
    have ih := flat_set es i e (by simpa using h)
    rw [List.set_cons_succ, List.flatMap_cons, List.flatMap_cons, ← ih]
    have e3 : (cellsE3 x).length = 3 := rfl
    rw [List.set_append_right _ _ (by rw [e3]; omega), List.set_append_right _ _ (by rw [e3]; omega), List.set_append_right _ _ (by rw [e3]; omega), e3]
    rw [show (i + 1) * 3 - 3 = i * 3 by omega, show (i + 1) * 3 + 1 - 3 = i * 3 + 1 by omega, show (i + 1) * 3 + 2 - 3 = i * 3 + 2 by omega]
/-- behind i exchanges from both ends -/
def RevAt {α : Type} (l es : List α) (i : Nat) : Prop := es.length = l.length ∧ ∀ t, t < l.length → es[t]? = if t < i ∨ l.length - 1 - t < i then l[l.length - 1 - t]? else l[t]?
theorem RevAt.start {α : Type} (l : List α) : RevAt l l 0 := ⟨rfl, fun t _ => by rw [if_neg (by omega)]⟩
theorem RevAt.step {α : Type} {l es : List α} {i j : Nat} (h : RevAt l es i) (hj : j = l.length - 1 - i) (hij : i < j) (hil : i < es.length) (hjl : j < es.length) : RevAt l ((es.set i es[j]).set j es[i]) (i + 1) := by
  have hl := h.1
  refine ⟨by simp [hl], fun t ht => ?_⟩
  have h1 := h.2 i (by omega)
  have h2 := h.2 j (by omega)
  have h3 := h.2 t ht
  rw [if_neg (by omega), List.getElem?_eq_getElem hil] at h1
  rw [if_neg (by omega), List.getElem?_eq_getElem hjl] at h2
  by_cases e1 : t = j
  · subst e1
    rw [List.getElem?_set_self (by simp; omega), if_pos (by omega), h1]
    congr 1; omega
  · rw [List.getElem?_set_ne (fun e => e1 e.symm)]
    by_cases e2 : t = i
    · subst e2
      rw [List.getElem?_set_self hil, if_pos (by omega), h2]
      congr 1
    · rw [List.getElem?_set_ne (fun e => e2 e.symm), h3]
      by_cases c : t < i ∨ l.length - 1 - t < i
      · rw [if_pos c, if_pos (by omega)]
      · rw [if_neg c, if_neg (by omega)]
theorem RevAt.done {α : Type} {l es : List α} {i : Nat} (h : RevAt l es i) (hi : l.length ≤ 2 * i + 1) : es = l.reverse := by
  refine List.ext_getElem? fun t => ?_
  by_cases ht : t < l.length
  · rw [h.2 t ht, List.getElem?_reverse ht]
    by_cases c : t < i ∨ l.length - 1 - t < i
    · rw [if_pos c]
    · rw [if_neg c]; congr 1; omega
  · rw [List.getElem?_eq_none (by rw [h.1]; omega), List.getElem?_eq_none (by rw [List.length_reverse]; omega)]

theorem rev_swap {w W : World} {base g cap n : Nat} {es : List EdV} (h : W.ownsRow base 38 3 (.slice (some ⟨g, 0, none⟩) n cap) n (es.flatMap cellsE3)) (hB : Below base w W) (hg : base ≤ g) (i j : Nat) (ei ej : EdV) (hi : i < es.length) (hj : j < es.length) :
    ((((((W.setCell ⟨g, i * 3, none⟩ (.int .i64 ej.place)).setCell ⟨g, i * 3 + 1, none⟩ (.int .i64 ej.len)).setCell ⟨g, i * 3 + 2, none⟩ (.string ej.text)).setCell ⟨g, j * 3, none⟩ (.int .i64 ei.place)).setCell ⟨g, j * 3 + 1, none⟩ (.int .i64 ei.len)).setCell ⟨g, j * 3 + 2, none⟩ (.string ei.text)).ownsRow base 38 3 (.slice (some ⟨g, 0, none⟩) n cap) n (((es.set i ej).set j ei).flatMap cellsE3) ∧
    Below base w ((((((W.setCell ⟨g, i * 3, none⟩ (.int .i64 ej.place)).setCell ⟨g, i * 3 + 1, none⟩ (.int .i64 ej.len)).setCell ⟨g, i * 3 + 2, none⟩ (.string ej.text)).setCell ⟨g, j * 3, none⟩ (.int .i64 ei.place)).setCell ⟨g, j * 3 + 1, none⟩ (.int .i64 ei.len)).setCell ⟨g, j * 3 + 2, none⟩ (.string ei.text)) := by
  refine ⟨?_, (((((hB.setCell (p := ⟨g, i * 3, none⟩) hg _).setCell (p := ⟨g, i * 3 + 1, none⟩) hg _).setCell (p := ⟨g, i * 3 + 2, none⟩) hg _).setCell (p := ⟨g, j * 3, none⟩) hg _).setCell (p := ⟨g, j * 3 + 1, none⟩) hg _).setCell (p := ⟨g, j * 3 + 2, none⟩) hg _⟩
  have h1 := (((h.stored (i * 3) (.int .i64 ej.place)).1.stored (i * 3 + 1) (.int .i64 ej.len)).1.stored (i * 3 + 2) (.string ej.text)).1
  rw [flat_set es i ej hi] at h1
  have h2 := (((h1.stored (j * 3) (.int .i64 ei.place)).1.stored (j * 3 + 1) (.int .i64 ei.len)).1.stored (j * 3 + 2) (.string ei.text)).1
  rw [flat_set _ j ei (by rw [List.length_set]; exact hj)] at h2
  exact h2

set_option maxHeartbeats 2000000 in
theorem revE_any (l : List EdV) (v : Value) (base : Nat) (hl : l.length ≤ 1000000) (w : World) (h : w.ownsRow base 38 3 v l.length (l.flatMap cellsE3)) (hbase : base ≤ w.heap.size) :
    Calls Try.prog 54 #[v] w fun e w' => e = .returned (.tuple #[]) ∧ w'.ownsRow base 38 3 v l.length (l.reverse.flatMap cellsE3) ∧ Below base w w' := by
  have HH := Lib.hid h
  rcases h.2 with ⟨rfl, hn⟩ | ⟨g, cap, cur, rfl, hb, _, hnc, _⟩
  · have e0 : l = [] := List.length_eq_zero_iff.1 hn
    subst e0
    have HB := Lib.hid (Below.refl base w)
    clear h hn
    go_enter Try.func54, Try.ntmps54
    go_wp2
    go_loopw [2, 3] (fun vi vj wr => vi = .int .i64 0 ∧ vj = .int .i64 (-1) ∧ wr = w) (fun _ _ _ => 0)
    case atStart => exact ⟨rfl, rfl, rfl⟩
    case round =>
      obtain ⟨rfl, rfl, rfl⟩ := hrel
      go_wp2
      first
        | exact ⟨rfl, HH.out, HB.out⟩
        | (go_end0; exact ⟨rfl, HH.out, HB.out⟩)
        | trace_state
  · obtain ⟨n, hn⟩ : ∃ n, l.length = n := ⟨_, rfl⟩
    rw [hn] at HH hl hnc ⊢
    clear h
    go_enter Try.func54, Try.ntmps54
    go_wp2
    go_loopw [2, 3] (fun vi vj wr => ∃ (i : Nat) (es : List EdV), 2 * i ≤ n + 1 ∧ vi = .int .i64 i ∧ vj = .int .i64 ((n : Int) - 1 - i) ∧ RevAt l es i ∧ wr.ownsRow base 38 3 (.slice (some ⟨g, 0, none⟩) n cap) n (es.flatMap cellsE3) ∧ Below base w wr)
      (fun vi _ _ => n - (intOf vi).toNat)
    case atStart => exact ⟨0, l, by omega, rfl, by simp, RevAt.start l, HH.out, Below.refl _ _⟩
    case round =>
      obtain ⟨i, es, hi, rfl, rfl, hR, hO, hB⟩ := hrel
      have HR := Lib.hid hR
      have HO := Lib.hid hO
      have HB := Lib.hid hB
      have hel : es.length = n := by rw [hR.1, hn]
      clear hR hO hB
      by_cases hlt : 2 * i < n - 1
      · obtain ⟨j, hj⟩ : ∃ j : Nat, n - 1 - i = j := ⟨_, rfl⟩
        have hji : (n : Int) - 1 - (i : Int) = (j : Int) := by omega
        have hijI : (i : Int) < (j : Int) := by omega
        have hin : i < es.length := by omega
        have hjn : j < es.length := by omega
        have hib : i < n := by omega
        have hjb : j < n := by omega
        have fi := flat_at es i hin
        have fj := flat_at es j hjn
        have c1 : wr.cell? ⟨g, i * 3, none⟩ = some (.int .i64 es[i].place) := (HO.out.cellAt (i * 3) (by omega)).trans fi.1
        have c2 : wr.cell? ⟨g, i * 3 + 1, none⟩ = some (.int .i64 es[i].len) := (HO.out.cellAt (i * 3 + 1) (by omega)).trans fi.2.1
        have c3 : wr.cell? ⟨g, i * 3 + 2, none⟩ = some (.string es[i].text) := (HO.out.cellAt (i * 3 + 2) (by omega)).trans fi.2.2
        have d1 : wr.cell? ⟨g, j * 3, none⟩ = some (.int .i64 es[j].place) := (HO.out.cellAt (j * 3) (by omega)).trans fj.1
        have d2 : wr.cell? ⟨g, j * 3 + 1, none⟩ = some (.int .i64 es[j].len) := (HO.out.cellAt (j * 3 + 1) (by omega)).trans fj.2.1
        have d3 : wr.cell? ⟨g, j * 3 + 2, none⟩ = some (.string es[j].text) := (HO.out.cellAt (j * 3 + 2) (by omega)).trans fj.2.2
        have z1 := HO.out.frozenAt (i * 3)
        have z2 := HO.out.frozenAt (i * 3 + 1)
        have z3 := HO.out.frozenAt (i * 3 + 2)
        have y1 := HO.out.frozenAt (j * 3)
        have y2 := HO.out.frozenAt (j * 3 + 1)
        have y3 := HO.out.frozenAt (j * 3 + 2)
        clear fi fj
        have HS := Lib.hid (rev_swap HO.out HB.out hb i j es[i] es[j] (by omega) (by omega))
        have HR2 := Lib.hid (HR.out.step (show j = l.length - 1 - i by omega) (by omega) hin hjn)
        obtain ⟨ei, hei⟩ : ∃ e, es[i] = e := ⟨_, rfl⟩
        obtain ⟨ej, hej⟩ : ∃ e, es[j] = e := ⟨_, rfl⟩
        rw [hei, hej] at HS HR2
        rw [hei] at c1 c2 c3
        rw [hej] at d1 d2 d3
        clear hei hej
        go_wp2_with fail
        go_region
        go_wp2
        go_roundw
        case rel => exact ⟨i + 1, _, by omega, by go_num, by go_num, HR2.out, HS.out.1.drew, HS.out.2.drew⟩
        case measure => simp [intOf]; omega
      · have e := HR.out.done (by omega)
        have HO2 := Lib.hid (show wr.ownsRow base 38 3 (.slice (some ⟨g, 0, none⟩) n cap) n (l.reverse.flatMap cellsE3) by rw [← e]; exact HO.out)
        have hji : ¬ (i : Int) < (n : Int) - 1 - (i : Int) := by omega
        clear e
        go_wp2
        first
          | exact ⟨rfl, HO2.out, HB.out⟩
          | (go_end0; exact ⟨rfl, HO2.out, HB.out⟩)
          | trace_state
end Go.Proofs.Ytbdeakodmhcgdaa
