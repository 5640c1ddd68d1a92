/- The program's contracts, Reverse and Filter with them. -/
import Derived.Test.YtjjdihkjkmhjnaaGlSpec
namespace Go.Proofs.Ytjjdihkjkmhjnaa
set_option linter.unusedSimpArgs false
set_option linter.unusedVariables false
open Go.RowKit Go.Deep

/-- the program's contracts: what the laws' walks take, and a later text gives -/
structure GlobOk : Prop extends GlobOk1 where
  reverse : ∀ (p t : ByteArray) (r : Int), revR p.data.toList = (t.data.toList, r) → ∀ w : World,
    Calls Try.prog 17 #[.string p] w fun e w' => e = .returned (.tuple #[.string t, intV r]) ∧ Below w.heap.size w w'
  filter : ∀ (p : ByteArray) (xs : List ByteArray) (v : Value) (out : List ByteArray) (r : Int) (w : World), StrsAt w v xs → xs.length ≤ 9223372036854775807 → filterR p.data.toList xs = (out, r) →
    Calls Try.prog 24 #[.string p, v] w (FiltPost out r w)
end Go.Proofs.Ytjjdihkjkmhjnaa
