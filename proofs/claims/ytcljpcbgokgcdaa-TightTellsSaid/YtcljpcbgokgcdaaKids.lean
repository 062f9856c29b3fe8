/-
  What is said of kids that are answered.
-/
import Derived.Test.YtcljpcbgokgcdaaCuts
import Derived.Test.YtcljpcbgokgcdaaKidsM
import Derived.Test.YtcljpcbgokgcdaaFirsts
namespace Go.Proofs.Ytcljpcbgokgcdaa
open Go.RowKit Go.Lib
set_option linter.unusedSimpArgs false
set_option linter.unusedVariables false

/-- the answer holds the rows ks, and nothing that was there has turned -/
def KidsP (ks : List (List Nd)) (w : World) (e : Ending) (w' : World) : Prop :=
  ∃ A c, e = .returned (.slice A ks.length c) ∧ (A = none → c = 0) ∧ ks.length ≤ c ∧ KidsAt w' w'.heap.size A ks ∧ Grow w w'
end Go.Proofs.Ytcljpcbgokgcdaa
