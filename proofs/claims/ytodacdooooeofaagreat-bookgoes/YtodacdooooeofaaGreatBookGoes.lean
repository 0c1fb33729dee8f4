/- BookGoes: the statement's frame asks this. -/
import Derived.Test.YtodacdooooeofaaGreatRbN
namespace Go.Proofs.YtodacdooooeofaaGreat
open Go.RowKit Go.Lib
set_option linter.unusedVariables false
theorem bookGoes_walk (c : Cfg) (A : Option Addr) (cap : Nat) (ds : List Dd) (A2 : Option Addr) (cap2 : Nat) (zs : List Int) (w : World) (hO : ∀ y ∈ ds, inI64 y.ch.ix) (hA : DdsAt w w.heap.size A ds) (hl : ds.length ≤ maxLen) (hO2 : ∀ y ∈ zs, inI64 y) (hZ : IntsAt w w.heap.size A2 zs) (hl2 : zs.length ≤ maxLen) : Calls Tryz.prog 4 #[c.V, .slice A ds.length cap, .slice A2 zs.length cap2] w (Yes w true) :=
  goes_walk c A cap ds A2 cap2 zs w hA hl hZ hl2
end Go.Proofs.YtodacdooooeofaaGreat
