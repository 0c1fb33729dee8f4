/- Of all who read at one index one at most changes it: the statement's frame asks this. -/
import Derived.Test.YtlmdhkaplemjpaaGreatVtP
namespace Go.Proofs.YtlmdhkaplemjpaaGreat
open Go.RowKit Go.Lib
set_option linter.unusedVariables false
theorem vaultOne_walk (c : Cfg) (A : Option Addr) (cap : Nat) (ds : List Dd) (w : World) (hO : ∀ y ∈ ds, y.wf) (hA : DdsAt w w.heap.size A ds) (hl : ds.length ≤ maxLen) : Calls Tryz.prog 4 #[c.V, .slice A ds.length cap] w (Yes w true) := by
  cases hc : okc c
  · exact one_no c A cap ds w hc hA hl
  · exact one_ok c A cap ds w hc hA hl
end Go.Proofs.YtlmdhkaplemjpaaGreat
