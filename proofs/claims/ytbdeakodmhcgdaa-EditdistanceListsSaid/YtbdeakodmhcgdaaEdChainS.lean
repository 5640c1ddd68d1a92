/- Chains of strings; the better of two. -/
import Derived.Test.YtbdeakodmhcgdaaEdChain
import Derived.Test.YtbdeakodmhcgdaaEdCommon
namespace Go.Proofs.Ytbdeakodmhcgdaa
set_option linter.unusedSimpArgs false
set_option linter.unusedVariables false
set_option maxRecDepth 100000
open Go.RowKit Go.Deep

def cellsS1 (s : ByteArray) : List Value := [.string s]
abbrev ChainS (W : World) (p : Option Addr) (l : List ByteArray) : Prop := ChainAt 101 cellsS1 W p l

set_option maxHeartbeats 1000000 in
theorem sizeS_any (p : Option Addr) (l : List ByteArray) (w : World) (h : ChainS w p l) :
    Calls Try.prog 79 #[.pointer p] w fun e w' => e = .returned (intV l.length) ∧ w = w' := by
  cases l with
  | nil =>
    obtain rfl : p = none := h
    go_enter Try.func79, Try.ntmps79
    go_wp2
    go_ret
    exact ⟨rfl, rfl⟩
  | cons x l =>
    obtain ⟨b, q, rfl, hb, _, hc⟩ := h.cell
    have c4 : w.cell? ⟨b, 2, none⟩ = some (intV ((x :: l).length : Nat)) := hc 2 _ (by simp [cellsS1])
    obtain ⟨n, hn⟩ : ∃ n, (x :: l).length = n := ⟨_, rfl⟩
    rw [hn] at c4 ⊢
    clear hc hn
    go_enter Try.func79, Try.ntmps79
    go_wp2
    go_ret
    exact ⟨rfl, rfl⟩
theorem sizeS_at (p : Option Addr) (l : List ByteArray) (n : Nat) (hn : l.length = n) (w : World) (h : ChainS w p l) :
    Calls Try.prog 79 #[.pointer p] w fun e w' => e = .returned (intV n) ∧ w = w' := by subst hn; exact sizeS_any p l w h

set_option maxHeartbeats 2000000 in
theorem withS_any (p : Option Addr) (l : List ByteArray) (x : ByteArray) (w : World) (h : ChainS w p l) (hl : l.length ≤ 1000000) :
    Calls Try.prog 63 #[.pointer p, .string x] w fun e w' => ∃ q, e = .returned (.pointer q) ∧ ChainS w' q (x :: l) ∧ Below w.heap.size w w' := by
  have HH := Lib.hid h
  have hw : IntKind.i64.wrap ((l.length : Int) + 1) = (l.length : Int) + 1 := IntWalk.i64_in _ (by omega)
  have h5 : ChainS (w.alloc (.cells #[.string x, .pointer p, .int .i64 ((l.length : Int) + 1)] 101)) (some ⟨w.heap.size, 0, none⟩) (x :: l) ∧ Below w.heap.size w (w.alloc (.cells #[.string x, .pointer p, .int .i64 ((l.length : Int) + 1)] 101)) := by
    have hB2 : Below w.heap.size w (w.alloc (.cells #[.string x, .pointer p, .int .i64 ((l.length : Int) + 1)] 101)) := (Below.refl _ _).alloc (Nat.le_refl _) _
    refine ⟨⟨_, p, rfl, ?_, h.below hB2⟩, hB2⟩
    rw [blk_alloc_new]; rfl
  have H5 := Lib.hid h5
  clear h h5
  go_enter Try.func63, Try.ntmps63
  go_wp2_with fail
  refine (sizeS_any p l _ HH.out).mono ?_
  rintro e w1 ⟨rfl, rfl⟩
  go_wp2
  go_ret
  exact ⟨_, rfl, H5.out.1, H5.out.2⟩

theorem flatS : ∀ (l : List ByteArray), l.flatMap cellsS1 = l.map Value.string
  | [] => rfl
  | x :: l => by rw [List.flatMap_cons, flatS l]; rfl

set_option maxHeartbeats 2000000 in
theorem elementsS_any (p : Option Addr) (l : List ByteArray) (w : World) (h : ChainS w p l) (hl : l.length ≤ 1000000) :
    Calls Try.prog 64 #[.pointer p] w fun e w' => ∃ v, e = .returned v ∧ w'.ownsRow w.heap.size 9 1 v l.length (l.map Value.string) ∧ Below w.heap.size w w' := by
  obtain ⟨i0, hi, hz0, hz1, hz2⟩ := info_parts info_str
  have HH := Lib.hid h
  clear h
  go_enter Try.func64, Try.ntmps64
  go_wp2_with fail
  refine (sizeS_any p l _ HH.out).mono ?_
  rintro e w1 ⟨rfl, rfl⟩
  go_wp2_with (at_make; refine wpList_make_own _ rfl _ _ 34 rfl w.heap.size 9 i0 (.string ⟨#[]⟩) 1 Try.underlying34 hi hz0 hz1 .i64 .i64 _ l.length rfl rfl rfl (by rw [hz2]; omega) (by unfold maxLen; omega) (Nat.le_refl _) ?_; intro w1 hown0 hg0)
  have HB0 : Below w.heap.size w w1 := (Below.refl _ _).grown hg0 (Nat.le_refl _) (fun k e => by cases e)
  clear hg0
  go_loopw [0, 3] (fun c v wr => ∃ (done rest : List ByteArray) (q : Option Addr), done ++ rest = l ∧ c = .pointer q ∧ ChainS w q rest ∧ wr.ownsRow w.heap.size 9 1 v done.length (done.map Value.string) ∧ Below w.heap.size w wr)
    (fun _ v _ => l.length - lenOf v)
  case atStart => exact ⟨[], l, p, rfl, rfl, HH.out, hown0, HB0⟩
  case round =>
    obtain ⟨done, rest, q, hsplit, rfl, hC, hown, hB⟩ := hrel
    clear hown0 HB0
    have HO := Lib.hid hown
    have HB := Lib.hid hB
    have hsz := hB.size
    have hlen : done.length + rest.length = l.length := by rw [← hsplit, List.length_append]
    have hlo := own_lenOf hown
    cases rest with
    | nil =>
      obtain rfl : q = none := hC
      rw [List.append_nil] at hsplit
      subst hsplit
      clear hown hB
      go_wp2
      go_ret
      exact ⟨_, rfl, HO.out, HB.out⟩
    | cons x rest =>
      obtain ⟨b, q2, rfl, hb, hC2, hc⟩ := hC.cell
      have c0 : wr.cell? ⟨b, 0, none⟩ = some (.string x) := (hB.cell (p := ⟨b, 0, none⟩) hb).trans (hc 0 _ (by simp [cellsS1]))
      have c3 : ∀ W, Below w.heap.size w W → W.cell? ⟨b, 1, none⟩ = some (.pointer q2) := fun W hW => (hW.cell (p := ⟨b, 1, none⟩) hb).trans (hc 1 _ (by simp [cellsS1]))
      have C3 := Lib.hid c3
      have HC2 := Lib.hid hC2
      have hl2 : done.length < l.length := by simp at hlen; omega
      clear hC hC2 hc hown hB c3
      go_wp2_with (at_builtin; refine wpList_append_own _ rfl _ _ 34 rfl w.heap.size 9 i0 (.string ⟨#[]⟩) 1 16 Try.underlying34 hi hz0 hz1 hz2 rfl (by decide) _ _ _ rfl (HO.out.alloc _) ⟨wr.heap.size, 0, none⟩ 1 1 [.string x] rfl rfl (one_news _ _ _ _ rfl) (by simp [Value.oneCell']) (by unfold maxLen; omega) (by omega) (by simp; omega) ?_; intro v' w2 hown' hgrow hnn; clear hnn; have HO1 := Lib.hid hown'; have HB1 := Lib.hid (own_below HB.out HB.out.size HO.out hgrow); have c3 := C3.out _ HB1.out; clear hown' hgrow)
      go_roundw
      case rel => exact ⟨done ++ [x], rest, q2, by rw [List.append_assoc]; exact hsplit, rfl, HC2.out, by rw [List.length_append, List.map_append]; simpa using HO1.out, HB1.out⟩
      case measure =>
        have := own_lenOf HO1.out
        omega
end Go.Proofs.Ytbdeakodmhcgdaa
