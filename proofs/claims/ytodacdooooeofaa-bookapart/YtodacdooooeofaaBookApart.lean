/- Who cancels first plays no part: the statement's frame asks this. -/
import Derived.Test.YtodacdooooeofaaBkQ
namespace Go.Proofs.Ytodacdooooeofaa
open Go.RowKit Go.Lib
set_option linter.unusedVariables false
theorem bookApart_walk (c : Cfg) (A : Option Addr) (cap : Nat) (ds : List Dd) (i1 i2 mo : Int) (w : World) (hO : ∀ y ∈ ds, True) (hA : DdsAt w w.heap.size A ds) (hl : ds.length ≤ maxLen) (h1 : inI64 i1) (h2 : inI64 i2) (hm : inI64 mo) : Calls Try.prog 4 #[c.V, .slice A ds.length cap, .int .i64 i1, .int .i64 i2, .int .i64 mo] w (Yes w true) :=
  apart_walk c A cap ds i1 i2 mo w hA hl hm
end Go.Proofs.Ytodacdooooeofaa
