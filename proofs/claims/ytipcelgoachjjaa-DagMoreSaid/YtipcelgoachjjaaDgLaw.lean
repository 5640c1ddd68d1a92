/- What the laws' walks share. -/
import Derived.Test.YtipcelgoachjjaaDgFine
import Derived.Test.YtipcelgoachjjaaDgAwake
import Derived.Test.YtipcelgoachjjaaDgArgs
namespace Go.Proofs.Ytipcelgoachjjaa
set_option linter.unusedSimpArgs false
set_option linter.unusedVariables false
set_option maxRecDepth 100000
open Go.RowKit Go.Deep

theorem okR_spec {n : Int} {ls : List LkV} (h : okR n ls = true) : greatR n ls = false ∧ checkR n ls = 0 := by
  unfold okR at h
  rw [Bool.and_eq_true, decide_eq_true_eq] at h
  exact ⟨by simpa using h.1, h.2⟩
theorem nodes_ok2 {n : Int} {ls : List LkV} {s t : Int} (h : checkR n ls = 0) (hs : inN n s) (ht : inN n t) : nodesR n ls [s, t] = 0 := by rw [nodes_two h, if_pos ⟨hs, ht⟩]
theorem nodes_ok1 {n : Int} {ls : List LkV} {t : Int} (h : checkR n ls = 0) (ht : inN n t) : nodesR n ls [t] = 0 := by
  rw [nodesR, h, if_neg (by decide), if_pos (by simpa using ht)]
theorem sho_ok {n : Int} {ls : List LkV} {s t : Int} (h : checkR n ls = 0) (hs : inN n s) (ht : inN n t) : shoR n ls s t = if least ls t s = -1 then ([], 0, 6) else (toI (first ls t s), least ls t s, 0) := by
  rw [shoR, nodes_ok2 h hs ht, if_neg (by decide)]
theorem lon_ok {n : Int} {ls : List LkV} {s t : Int} (h : checkR n ls = 0) (hs : inN n s) (ht : inN n t) : lonR n ls s t = if most ls t s = -1 then (0, 6) else (most ls t s, 0) := by
  rw [lonR, nodes_ok2 h hs ht, if_neg (by decide)]
theorem cnt_ok {n : Int} {ls : List LkV} {s t : Int} (h : checkR n ls = 0) (hs : inN n s) (ht : inN n t) : cntR n ls s t = ((npaths ls t s : Int), 0) := by
  rw [cntR, nodes_ok2 h hs ht, if_neg (by decide)]
theorem pot_ok {n : Int} {ls : List LkV} {t : Int} (h : checkR n ls = 0) (ht : inN n t) : potR n ls t = (tab n.toNat (least ls t), 0) := by
  rw [potR, nodes_ok1 h ht, if_neg (by decide)]
theorem fine_yes (n : Int) (ls : List LkV) (s t : Int) (hs : 0 ≤ s ∧ s < 256) (ht : 0 ≤ t ∧ t < 256) (v : Value) (w : World) (hv : LinksAt w v ls) (hl : ls.length ≤ maxLen) (h : okR n ls = true) :
    Calls Try.prog 28 #[intV n, v, u8V s, u8V t] w fun e w' => e = .returned (.tuple #[intV (s % n), intV (t % n), .bool true]) ∧ Below w.heap.size w w' := by
  have := fine_any n ls s t hs ht v w hv hl true h
  simpa using this
theorem fine_no (n : Int) (ls : List LkV) (s t : Int) (hs : 0 ≤ s ∧ s < 256) (ht : 0 ≤ t ∧ t < 256) (v : Value) (w : World) (hv : LinksAt w v ls) (hl : ls.length ≤ maxLen) (h : okR n ls = false) :
    Calls Try.prog 28 #[intV n, v, u8V s, u8V t] w fun e w' => e = .returned (.tuple #[intV 0, intV 0, .bool false]) ∧ Below w.heap.size w w' := by
  have := fine_any n ls s t hs ht v w hv hl false h
  simpa using this
/-- the node that a number names -/
theorem node_of {n : Int} {ls : List LkV} {s : Int} (h : checkR n ls = 0) (hs : 0 ≤ s ∧ s < 256) : inN n (s % n) := by
  have := (gr_of h).n1
  exact ⟨Int.emod_nonneg _ (by omega), Int.emod_lt_of_pos _ (by omega)⟩
end Go.Proofs.Ytipcelgoachjjaa
