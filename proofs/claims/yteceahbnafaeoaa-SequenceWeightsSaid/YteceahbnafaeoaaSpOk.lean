/- The program keeps the contracts. -/
import Derived.Test.YteceahbnafaeoaaSpVerify
import Derived.Test.YteceahbnafaeoaaSpRunsW
import Derived.Test.YteceahbnafaeoaaSpInv
namespace Go.Proofs.Yteceahbnafaeoaa
open Go.RowKit Go.Deep

theorem sqOk : SqOk where
  incr := fun l v w h _ _ => incr_any l v w h
  wtd := fun l ws v u w h h2 _ _ h3 h4 => wtd_any l ws v u w h3 h4 h h2
  cover := fun l v w h _ _ => coverP_any l v w h
  verify := fun l is cov v u x w h1 h2 h3 _ _ _ _ h4 h5 h6 => verifyP_any l is cov v u x w h1 h2 h3 h4 h5 h6
  inv := fun l v w h hc _ _ => invP_any l v w h hc
  runs := fun l v w h hr _ => runsP_any l v w h hr
  perm := fun l v w h _ hl => permP_any l (by omega) v w h _ rfl
  moves := fun l v w h _ _ => movesP_any l v w h
end Go.Proofs.Yteceahbnafaeoaa
