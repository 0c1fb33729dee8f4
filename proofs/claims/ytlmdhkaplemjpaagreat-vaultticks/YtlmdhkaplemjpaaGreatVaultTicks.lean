/- Ticks make nothing stale: the statement's frame asks this. -/
import Derived.Test.YtlmdhkaplemjpaaGreatVtM
namespace Go.Proofs.YtlmdhkaplemjpaaGreat
open Go.RowKit Go.Lib
set_option linter.unusedVariables false
theorem vaultTicks_walk (c : Cfg) (x : K) (tk : Int) (f : Bool) (w : World) : Calls Tryz.prog 5 #[c.V, x.V, .int .i64 tk, .bool f] w (Yes w true) := ticks_walk c x tk f w
end Go.Proofs.YtlmdhkaplemjpaaGreat
