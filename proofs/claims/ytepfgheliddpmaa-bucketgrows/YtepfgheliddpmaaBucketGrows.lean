/- BucketGrows, for its frame. -/
import Derived.Test.YtepfgheliddpmaaBuGr
import Derived.Test.YtepfgheliddpmaaBuArgs
namespace Go.Proofs.Ytepfgheliddpmaa
open Go.RowKit Go.Lib
theorem bucketGrows_ok (c : Cfg) (b : Bt) (a m : Int) (w : World) : Calls Try.prog 5 #[c.V, b.V, .int .i64 a, .int .i64 m] w fun e w' => e = .returned (.bool true) ∧ Below w.heap.size w w' := grows_any c b a m w
end Go.Proofs.Ytepfgheliddpmaa
