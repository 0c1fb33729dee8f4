/- The walk of RingExact, whatever the room. -/
import Derived.Test.YtenajaiedoigpaaRingExact
namespace Go.Proofs.Ytenajaiedoigpaa
open Go.RowKit Go.Lib Plain
theorem ringExact_walk (z : Int) (A : Option Addr) (cap : Nat) (acts : List Deed) (w : World) (_ : inI64 z) (hai : ∀ y ∈ acts, inI64 y.kind ∧ inI64 y.n) (hA : ActsAt w w.heap.size A acts) (hl : acts.length ≤ maxLen) :
    Calls Try.prog 3 #[.int .i64 z, .slice A acts.length cap] w fun e w' => e = .returned (.bool true) ∧ Below w.heap.size w w' := by
  by_cases h : z < 1 ∨ 65536 < z
  · exact ringExact_out z _ w h
  · obtain ⟨k, rfl⟩ : ∃ k : Nat, z = (k : Int) := ⟨z.toNat, by omega⟩
    exact ringExact_in k (by omega) (by omega) A cap acts w hai hA hl
end Go.Proofs.Ytenajaiedoigpaa
