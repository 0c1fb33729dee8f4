/- An entry: till when it counts, what was asked, what was answered. No Go text. -/
import Derived.Test.YtedogbkkophghaaMem
namespace Go.Proofs.Ytedogbkkophghaa
open Go.RowKit Go.Lib

structure E where
  last : Int
  body : ByteArray
  ans : ByteArray
def E.cells (x : E) : Array Value := #[.int .i64 x.last, .string x.body, .string x.ans]
abbrev E.V (x : E) : Value := .agg x.cells
/-- no text -/
abbrev zt : ByteArray := ⟨#[]⟩
/-- no entry -/
def ze : E := ⟨0, zt, zt⟩
abbrev Z3 : Array Value := #[.int .i64 0, .string ⟨#[]⟩, .string ⟨#[]⟩]
end Go.Proofs.Ytedogbkkophghaa
