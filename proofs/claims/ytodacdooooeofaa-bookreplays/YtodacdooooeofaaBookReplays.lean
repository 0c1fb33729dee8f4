/- Its changes make a book: the statement's frame asks this. -/
import Derived.Test.YtodacdooooeofaaBkU
namespace Go.Proofs.Ytodacdooooeofaa
open Go.RowKit Go.Lib
set_option linter.unusedVariables false
theorem bookReplays_walk (c : Cfg) (A : Option Addr) (cap : Nat) (ds : List Dd) (w : World) (hO : ∀ y ∈ ds, True) (hA : DdsAt w w.heap.size A ds) (hl : ds.length ≤ maxLen) : Calls Try.prog 3 #[c.V, .slice A ds.length cap] w (Yes w true) :=
  replays_walk c A cap ds w hA hl
end Go.Proofs.Ytodacdooooeofaa
