/- Small things that every walk of layer 7 takes. -/
import Derived.Test.YtjjdihkjkmhjnaaGlMath
import Derived.Test.YtjjdihkjkmhjnaaProg
import Derived.WalkKit
import Derived.WalkSpells
import Derived.WalkLawsBesides
import Derived.WalkSmall
import Derived.Lib.Hide
import Derived.IntWalk
import Derived.Deep.QuietTactic
import Derived.BigQuiet
import Derived.Deep.Slices
import Derived.Deep.RegionHeld3
import Derived.Below
namespace Go.Proofs.Ytjjdihkjkmhjnaa
set_option linter.unusedSimpArgs false
set_option linter.unusedVariables false
open Go.RowKit Go.Deep

abbrev intV (x : Int) : Value := .int .i64 x
def intOf : Value → Int
  | .int _ n => n
  | _ => 0
def szOf : Value → Nat
  | .string s => s.size
  | _ => 0
theorem ret_int {k : IntKind} {a b : Int} (h : a = b) : Ending.returned (.int k a) = .returned (.int k b) := by rw [h]
theorem ret_bool {a b : Bool} (h : a = b) : Ending.returned (.bool a) = .returned (.bool b) := by rw [h]
theorem below_seq {N M : Nat} {w w1 w2 : World} (h1 : Below N w w1) (h2 : Below M w1 w2) (h : N ≤ M) : Below N w w2 := h1.trans (h2.mono h)
theorem below_drewN (w : World) (n : Nat) : Below w.heap.size w (w.drewN n) := ⟨rfl, rfl, rfl, Nat.le_refl _, fun _ _ => rfl⟩
theorem below_box0 (w : World) (o : Obj) : Below w.heap.size w (w.alloc o) := (Below.refl _ w).alloc (Nat.le_refl _) o
theorem below_w {w w1 : World} (h : w = w1) : Below w.heap.size w w1 := by rw [← h]; exact Below.refl _ _
theorem ba_of {a b : ByteArray} (h : a.data.toList = b.data.toList) : a = b := ByteArray.ext (Array.toList_inj.1 h)
theorem size_list (s : ByteArray) : s.data.toList.length = s.size := Array.length_toList
theorem ext_list (s : ByteArray) (a b : Nat) : (s.extract a b).data.toList = (s.data.toList.drop a).take (b - a) := by
  rw [ByteArray.data_extract, Array.toList_extract, List.extract_eq_take_drop]
theorem ba_get (s : ByteArray) (j : Nat) (h : j < s.size) : s.data.toList[j]'(by rw [size_list]; exact h) = s[j] := by
  rw [Array.getElem_toList]; rfl
theorem drop_at (s : ByteArray) (k : Nat) (h : k < s.size) : s.data.toList.drop k = s[k] :: s.data.toList.drop (k + 1) := by
  rw [List.drop_eq_getElem_cons (by rw [size_list]; exact h), ba_get s k h]
theorem byte_ne {a e : UInt8} {ev : Int} (hev : (e.toNat : Int) = ev) (h : a ≠ e) : ((a.toNat : Int) == ev) = false := by
  rw [beq_eq_false_iff_ne, ← hev]
  intro hh
  exact h (UInt8.toNat_inj.1 (by omega))
theorem byte_eq {a e : UInt8} {ev : Int} (hev : (e.toNat : Int) = ev) (h : a = e) : ((a.toNat : Int) == ev) = true := by
  rw [h, hev]; exact beq_self_eq_true _
theorem byte_bne {a e : UInt8} {ev : Int} (hev : (e.toNat : Int) = ev) (h : a ≠ e) : ((a.toNat : Int) != ev) = true := by
  rw [bne, byte_ne hev h]; rfl
theorem byte_nbne {a e : UInt8} {ev : Int} (hev : (e.toNat : Int) = ev) (h : a = e) : ((a.toNat : Int) != ev) = false := by
  rw [bne, byte_eq hev h]; rfl
end Go.Proofs.Ytjjdihkjkmhjnaa
