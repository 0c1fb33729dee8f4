import Derived.Test.YtplapoenhohliaaGreatVuH
namespace Go.Proofs.YtplapoenhohliaaGreat
open Go.RowKit Go.Lib
set_option linter.unusedVariables false
theorem vaultExact_walk (c : Cfg) (A : Option Addr) (cap : Nat) (ds : List Dd) (w : World) (hO : ∀ y ∈ ds, y.wf) (hA : DdsAt w w.heap.size A ds) (hl : ds.length ≤ maxLen) : Calls Tryz.prog 3 #[c.V, .slice A ds.length cap] w (Yes w true) := by
 cases hc : okc c
 ·exact exact_no c A cap ds w hc hA hl
 ·exact exact_ok c A cap ds w hc hA hl
end Go.Proofs.YtplapoenhohliaaGreat
