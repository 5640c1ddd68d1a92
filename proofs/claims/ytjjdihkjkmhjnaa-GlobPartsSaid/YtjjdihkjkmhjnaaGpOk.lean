/- All contracts of the program together. -/
import Derived.Test.YtjjdihkjkmhjnaaGpCommon
import Derived.Test.YtjjdihkjkmhjnaaGpRev
import Derived.Test.YtjjdihkjkmhjnaaGpFilt
namespace Go.Proofs.Ytjjdihkjkmhjnaa
theorem globOk : GlobOk := { globOk1 with reverse := reverse_at, filter := filter_at }
end Go.Proofs.Ytjjdihkjkmhjnaa
