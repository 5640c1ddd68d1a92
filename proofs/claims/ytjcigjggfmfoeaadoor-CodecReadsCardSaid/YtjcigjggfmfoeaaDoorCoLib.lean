/- What is taken of the library: strconv, strings. -/
import Derived.Test.YtjcigjggfmfoeaaDoorShelf
import Derived.Test.YtjcigjggfmfoeaaDoorCoVals
import Derived.Lib.LaidTab
import Derived.Lib.SmallJoins
import Derived.Lib.AppendIntMem
namespace Go.Proofs.YtjcigjggfmfoeaaDoor
set_option linter.unusedSimpArgs false
set_option linter.unusedVariables false
set_option maxRecDepth 100000
open Go.RowKit

theorem tab_glob : Tryd.prog.globalNamed "internal/strconv.uint64pow10" = some 1 := by kernel_rfl
theorem syn_glob : Tryd.prog.globalNamed "strconv.ErrSyntax" = some 2 := by kernel_rfl
theorem rng_glob : Tryd.prog.globalNamed "strconv.ErrRange" = some 3 := by kernel_rfl
theorem var_below {w w' : World} {s : String} {g : Nat} (hg : Tryd.prog.globalNamed s = some g) {v : Array Value} (h : w.var? Tryd.prog s = some v) (hb : Below w.heap.size w w') : w'.var? Tryd.prog s = some v := by
  unfold World.var? at h ⊢
  rw [hg] at h ⊢
  simp only [Option.bind_some] at h ⊢
  rcases Nat.lt_or_ge g w.heap.size with h' | h'
  · rw [hb.block _ h']; exact h
  · rw [Array.getElem?_eq_none h'] at h; cases h
/-- what the library's variables hold -/
structure Tab (w : World) : Prop where
  pow : Lib.TabIs Tryd.prog w "internal/strconv.uint64pow10" .u64 Lib.pow10Tab
  syn : ∃ tp p, w.var? Tryd.prog "strconv.ErrSyntax" = some #[.iface tp p]
  rng : ∃ tp p, w.var? Tryd.prog "strconv.ErrRange" = some #[.iface tp p]
theorem Tab.below {w w' : World} (h : Tab w) (hb : Below w.heap.size w w') : Tab w' := by
  obtain ⟨h1, ⟨t2, p2, h2⟩, t3, p3, h3⟩ := h
  refine ⟨?_, ⟨t2, p2, var_below syn_glob h2 hb⟩, t3, p3, var_below rng_glob h3 hb⟩
  unfold Lib.TabIs at h1 ⊢
  exact var_below tab_glob h1 hb
theorem ba_list (l : List UInt8) : (⟨l.toArray⟩ : ByteArray).data.toList = l := by simp
theorem itoa_at (n : Int) (h0 : -9223372036854775808 ≤ n) (h1 : n ≤ 9223372036854775807) (st : ByteArray) (h : st.data.toList = Lib.itoa n) (w : World) (hT : Tab w) :
    Calls Tryd.prog 55 #[.int .i64 n] w fun e w' => e = .returned (.string st) ∧ Below w.heap.size w w' := by
  refine (Tryd.strconv_Itoa n h0 h1 w hT.pow).mono fun e w' ⟨h1, k, os, h2⟩ => ⟨?_, ?_⟩
  · rw [h1, show st = ⟨(Lib.itoa n).toArray⟩ from ba_of (by rw [h])]
  · rw [h2]; exact Lib.below_grow _ w (Nat.le_refl _) k os
/-- what Atoi gives, and whether there is no error -/
def AtoiPost (l : List UInt8) (w : World) (e : Ending) (w' : World) : Prop :=
  (∃ n : Int, Lib.atoiAll l = .ok n ∧ e = .returned (.tuple #[.int .i64 n, .nilIface]) ∧ Below w.heap.size w w') ∨
  (∃ (n : Int) (t : TypeId) (p : Value), (∀ m, Lib.atoiAll l ≠ .ok m) ∧ -9223372036854775808 ≤ n ∧ n ≤ 9223372036854775807 ∧ e = .returned (.tuple #[.int .i64 n, .iface t p]) ∧ Below w.heap.size w w')
theorem atoi_any (s : ByteArray) (hs : s.size ≤ 1048576) (w : World) (hT : Tab w) :
    Calls Tryd.prog 67 #[.string s] w (AtoiPost s.data.toList w) := by
  cases h : Lib.atoiAll s.data.toList with
  | ok v =>
    refine (Tryd.strconv_Atoi_ok s (by omega) v h w).mono fun e w' ⟨h1, h2⟩ => .inl ⟨v, h, h1, ?_⟩
    rcases h2 with rfl | ⟨t, rfl⟩
    · exact Below.refl _ _
    · exact Joins.below_bytesWorld _ _ _ _ (Nat.le_refl _)
  | «syntax» =>
    obtain ⟨tp, p, hv⟩ := hT.syn
    refine (Tryd.strconv_Atoi_syntax_var s (by omega) h tp p w hv).mono fun e w' ⟨N, h1, _, _, h2⟩ => .inr ⟨0, _, _, ?_, by omega, by omega, h1, h2⟩
    intro m hm; rw [h] at hm; cases hm
  | range =>
    obtain ⟨tp, p, hv⟩ := hT.rng
    have hb := Lib.atoiSat_bounds s.data.toList
    refine (Tryd.strconv_Atoi_range_var s (by omega) h tp p w hv).mono fun e w' ⟨N, h1, _, _, h2⟩ => .inr ⟨_, _, _, ?_, hb.1, hb.2, h1, h2⟩
    intro m hm; rw [h] at hm; cases hm
theorem repeat_at (c : Nat) (z : ByteArray) (hz : z.data.toList = List.replicate c 101) (hc : c ≤ 1048576) (w : World) :
    Calls Tryd.prog 35 #[.string ⟨#[101]⟩, .int .i64 c] w fun e w' => e = .returned (.string z) ∧ Below w.heap.size w w' := by
  have h := Tryd.strings_Repeat ⟨#[101]⟩ c w (by omega) (by rw [show (⟨#[101]⟩ : ByteArray).size = 1 from rfl]; omega)
  have e : (⟨(Lib.repeatL (⟨#[101]⟩ : ByteArray).data.toList c).toArray⟩ : ByteArray) = z := by
    refine ba_of ?_
    rw [hz]
    show Lib.repeatL [101] c = List.replicate c 101
    clear hc hz h
    induction c with
    | zero => rfl
    | succ c ih => rw [Lib.repeatL, ih]; rfl
  rwa [e] at h
end Go.Proofs.YtjcigjggfmfoeaaDoor
