/- What the program's functions have to give, as the laws take it. -/
import Derived.Test.YtjjdihkjkmhjnaaGlLawM
namespace Go.Proofs.Ytjjdihkjkmhjnaa
set_option linter.unusedSimpArgs false
set_option linter.unusedVariables false
open Go.RowKit Go.Deep

/-- u comes before v: by length, then bytewise -/
def ltL : List UInt8 → List UInt8 → Bool
  | [], [] => false
  | [], _ :: _ => true
  | _ :: _, [] => false
  | a :: u, b :: v => decide (a.toNat < b.toNat) || (a == b && ltL u v)
def befL (u v : List UInt8) : Bool := decide (u.length < v.length) || (decide (u.length = v.length) && ltL u v)
/-- what Common gives -/
def CommonIs (p q : List UInt8) (most : Int) (v : List UInt8) (is : Bool) (r : Int) : Prop :=
  if chk p ≠ 0 ∨ chk q ≠ 0 then v = [] ∧ is = false ∧ r = 1
  else if most < 0 ∨ 8 < most then v = [] ∧ is = false ∧ r = 2
  else r = 0 ∧ ((is = true ∧ (v.length : Int) ≤ most ∧ v.all chW = true ∧ Mat (par p).2 v ∧ Mat (par q).2 v ∧ ∀ u, u.all chW = true → Mat (par p).2 u → Mat (par q).2 u → befL u v = false) ∨
    (is = false ∧ v = [] ∧ ∀ u, u.all chW = true → Mat (par p).2 u → Mat (par q).2 u → most < u.length))
def CommonPost (p q : ByteArray) (most : Int) (w : World) (e : Ending) (w' : World) : Prop := ∃ (v : ByteArray) (is : Bool) (r : Int), e = .returned (.tuple #[.string v, .bool is, intV r]) ∧ CommonIs p.data.toList q.data.toList most v.data.toList is r ∧ Below w.heap.size w w'
/-- the program's contracts that every law takes; a later text gives them -/
structure GlobOk1 : Prop where
  check : ∀ (s : ByteArray) (er : Int), chk s.data.toList = er → ∀ w : World,
    Calls Try.prog 19 #[.string s] w fun e w' => e = .returned (intV er) ∧ Below w.heap.size w w'
  mtch : ∀ (p s : ByteArray) (b : Bool) (r : Int), matchR p.data.toList s.data.toList = (b, r) → ∀ w : World,
    Calls Try.prog 22 #[.string p, .string s] w fun e w' => e = .returned (.tuple #[.bool b, intV r]) ∧ Below w.heap.size w w'
  literal : ∀ (p t : ByteArray) (b : Bool) (r : Int), litR p.data.toList = (t.data.toList, b, r) → ∀ w : World,
    Calls Try.prog 13 #[.string p] w fun e w' => e = .returned (.tuple #[.string t, .bool b, intV r]) ∧ Below w.heap.size w w'
  bounds : ∀ (p : ByteArray) (a b r : Int), boundsR p.data.toList = (a, b, r) → ∀ w : World,
    Calls Try.prog 15 #[.string p] w fun e w' => e = .returned (.tuple #[intV a, intV b, intV r]) ∧ Below w.heap.size w w'
  common : ∀ (p q : ByteArray) (most : Int), -9223372036854775808 ≤ most → most ≤ 9223372036854775807 → ∀ w : World,
    Calls Try.prog 33 #[.string p, .string q, intV most] w (CommonPost p q most w)
end Go.Proofs.Ytjjdihkjkmhjnaa
