/-
  No cell of these rows narrows 'for every input' (looked for: loops, veiled, ifaces, maps, wideKeys, modest, calm, conditions, laid).
  DERIVED. THE GIVEN ROWS OF THIS SEAT. 4 by the template 'for every input the law returns true; each argument reads behind the call as it read before'; 0 by the template 'total and deterministic' (their statements: YtdgafpkigajgeaaTotals.lean).
  GIVEN WITH THE SEED: the statements are not yours to turn. If you find one false, say at which input.
  Laid BY PROGRAM, IN A SANDBOX (cutbox-rows.mjs): the forced cells as the released guide's own fill.sh prints them over the translation 05a3072be284a692… (all of the seat's roots in one cut). By AI agents, Wed Nov 11 2026. No macro, syntax, notation, axiom, sorry.
-/
import Derived.Test.YtdgafpkigajgeaaChecked
import GoSem.Claim
import GoSem.ClaimJoined
import GoSem.ClaimMapViews
import Derived.JoinedTies
import Derived.KernelRfl
namespace Go.Proofs.Ytdgafpkigajgeaa
/- THE CELL 'sum', in the pinned program and in every row, IS THE sha256 OF THE DUMP (.gsa) THAT YtdgafpkigajgeaaProg.lean LOADS. Nothing in Lean hashes anything: it is a label: what it is worth is what the hold of that sum in a sandbox is worth. -/
noncomputable def Try.pinned : Pinned := { name := "ytdgafpkigajgeaa", sum := "05a3072be284a69231646e70697a544a555fe04f2203d436571255df3fdbef2f", checked := Try.checked }
namespace Rows
def none {H : Type} : Left H := { results := [], args := [] }

/-- 'hoistwaylaw04.JointExact': WHATEVER THE INPUT: true; the input reads as it did. -/
def jointExactSpec : ChangeSpec := { name := "jointExact", fn := fun _ => fun
  | [d1, d2] => { results := [.lit (.bool true)], args := [d1, d2] }
  | _ => none }
def jointExactRow : OpenClaim := { program := "ytdgafpkigajgeaa", sum := "05a3072be284a69231646e70697a544a555fe04f2203d436571255df3fdbef2f", func := "hoistway/hoistwaylaw04.JointExact", spec := "jointExact", apart := false }
def JointExactSaid : Prop := jointExactRow.holds Try.pinned (OpenSpec.ofChange jointExactSpec)

/-- ITS FALSE NEIGHBOUR: 'it returns false'. Refute it at one input. -/
def jointExactWrong : ChangeSpec := { name := "jointExact", fn := fun _ => fun
  | [d1, d2] => { results := [.lit (.bool false)], args := [d1, d2] }
  | _ => none }
def JointExactWrongFalsely : Prop := jointExactRow.holds Try.pinned (OpenSpec.ofChange jointExactWrong)

/-- 'hoistwaylaw04.JointCuts': WHATEVER THE INPUT: true; the input reads as it did. -/
def jointCutsSpec : ChangeSpec := { name := "jointCuts", fn := fun _ => fun
  | [d1, d2] => { results := [.lit (.bool true)], args := [d1, d2] }
  | _ => none }
def jointCutsRow : OpenClaim := { program := "ytdgafpkigajgeaa", sum := "05a3072be284a69231646e70697a544a555fe04f2203d436571255df3fdbef2f", func := "hoistway/hoistwaylaw04.JointCuts", spec := "jointCuts", apart := false }
def JointCutsSaid : Prop := jointCutsRow.holds Try.pinned (OpenSpec.ofChange jointCutsSpec)

/-- ITS FALSE NEIGHBOUR: 'it returns false'. Refute it at one input. -/
def jointCutsWrong : ChangeSpec := { name := "jointCuts", fn := fun _ => fun
  | [d1, d2] => { results := [.lit (.bool false)], args := [d1, d2] }
  | _ => none }
def JointCutsWrongFalsely : Prop := jointCutsRow.holds Try.pinned (OpenSpec.ofChange jointCutsWrong)

/-- 'hoistwaylaw04.JointBytes': WHATEVER THE INPUT: true; the input reads as it did. -/
def jointBytesSpec : ChangeSpec := { name := "jointBytes", fn := fun _ => fun
  | [d1, d2] => { results := [.lit (.bool true)], args := [d1, d2] }
  | _ => none }
def jointBytesRow : OpenClaim := { program := "ytdgafpkigajgeaa", sum := "05a3072be284a69231646e70697a544a555fe04f2203d436571255df3fdbef2f", func := "hoistway/hoistwaylaw04.JointBytes", spec := "jointBytes", apart := false }
def JointBytesSaid : Prop := jointBytesRow.holds Try.pinned (OpenSpec.ofChange jointBytesSpec)

/-- ITS FALSE NEIGHBOUR: 'it returns false'. Refute it at one input. -/
def jointBytesWrong : ChangeSpec := { name := "jointBytes", fn := fun _ => fun
  | [d1, d2] => { results := [.lit (.bool false)], args := [d1, d2] }
  | _ => none }
def JointBytesWrongFalsely : Prop := jointBytesRow.holds Try.pinned (OpenSpec.ofChange jointBytesWrong)

/-- 'hoistwaylaw04.JointResets': WHATEVER THE INPUT: true; the input reads as it did. -/
def jointResetsSpec : ChangeSpec := { name := "jointResets", fn := fun _ => fun
  | [d1, d2] => { results := [.lit (.bool true)], args := [d1, d2] }
  | _ => none }
def jointResetsRow : OpenClaim := { program := "ytdgafpkigajgeaa", sum := "05a3072be284a69231646e70697a544a555fe04f2203d436571255df3fdbef2f", func := "hoistway/hoistwaylaw04.JointResets", spec := "jointResets", apart := false }
def JointResetsSaid : Prop := jointResetsRow.holds Try.pinned (OpenSpec.ofChange jointResetsSpec)

/-- ITS FALSE NEIGHBOUR: 'it returns false'. Refute it at one input. -/
def jointResetsWrong : ChangeSpec := { name := "jointResets", fn := fun _ => fun
  | [d1, d2] => { results := [.lit (.bool false)], args := [d1, d2] }
  | _ => none }
def JointResetsWrongFalsely : Prop := jointResetsRow.holds Try.pinned (OpenSpec.ofChange jointResetsWrong)

/- THE SECOND FORM. 'bulk': how many values and letters a reading holds, each counted each time it is reached (what is shared counts as often as it is met; a slice's spare places count too). A statement '..UptoSaid' is the law's where the arguments, and the package variables that the reading takes, are together of bulk at most 1048576: NARROWER than '..Said'. Prove '..Said' where nothing that the law and all that it calls make is longer than what came in: it says more and counts as full. Else prove '..UptoSaid'. A law counts once. -/
mutual
def uptoBulk {H : Type} : DataW H → Nat
  | .lit (.string bytes) => bytes.length + 1
  | .lit _ => 1
  | .nil => 1
  | .ptr d => uptoBulk d + 1
  | .slice elems spare => uptoBulkAll elems + uptoBulkAll spare + 1
  | .agg parts => uptoBulkAll parts + 1
  | .iface _ d => uptoBulk d + 1
  | .map entries => uptoBulkEntries entries + 1
  | .held _ => 1
def uptoBulkAll {H : Type} : List (DataW H) → Nat
  | [] => 0
  | d :: r => uptoBulk d + uptoBulkAll r
def uptoBulkEntries {H : Type} : List (Lit × DataW H) → Nat
  | [] => 0
  | x :: r => uptoBulkEntry x + uptoBulkEntries r
def uptoBulkEntry {H : Type} : Lit × DataW H → Nat
  | (.string bytes, d) => bytes.length + uptoBulk d + 1
  | (_, d) => uptoBulk d + 1
 end
def uptoSmall : (H : Type) → List (DataW H) → Bool := fun _ ds => decide (uptoBulkAll ds ≤ 1048576)
def OpenSpec.upto (s : _root_.Go.ChangeSpec) : _root_.Go.OpenSpec := { _root_.Go.OpenSpec.ofChange s with cond := some uptoSmall }

/-- 'hoistwaylaw04.JointExact', WHERE WHAT IT READS IS OF BULK AT MOST 1048576: true; the input reads as it did. -/
def jointExactUptoRow : OpenClaim := { program := "ytdgafpkigajgeaa", sum := "05a3072be284a69231646e70697a544a555fe04f2203d436571255df3fdbef2f", func := "hoistway/hoistwaylaw04.JointExact", spec := "jointExact", apart := false, narrowed := true }
def JointExactUptoSaid : Prop := jointExactUptoRow.holds Try.pinned (OpenSpec.upto jointExactSpec)

/-- 'hoistwaylaw04.JointCuts', WHERE WHAT IT READS IS OF BULK AT MOST 1048576: true; the input reads as it did. -/
def jointCutsUptoRow : OpenClaim := { program := "ytdgafpkigajgeaa", sum := "05a3072be284a69231646e70697a544a555fe04f2203d436571255df3fdbef2f", func := "hoistway/hoistwaylaw04.JointCuts", spec := "jointCuts", apart := false, narrowed := true }
def JointCutsUptoSaid : Prop := jointCutsUptoRow.holds Try.pinned (OpenSpec.upto jointCutsSpec)

/-- 'hoistwaylaw04.JointBytes', WHERE WHAT IT READS IS OF BULK AT MOST 1048576: true; the input reads as it did. -/
def jointBytesUptoRow : OpenClaim := { program := "ytdgafpkigajgeaa", sum := "05a3072be284a69231646e70697a544a555fe04f2203d436571255df3fdbef2f", func := "hoistway/hoistwaylaw04.JointBytes", spec := "jointBytes", apart := false, narrowed := true }
def JointBytesUptoSaid : Prop := jointBytesUptoRow.holds Try.pinned (OpenSpec.upto jointBytesSpec)

/-- 'hoistwaylaw04.JointResets', WHERE WHAT IT READS IS OF BULK AT MOST 1048576: true; the input reads as it did. -/
def jointResetsUptoRow : OpenClaim := { program := "ytdgafpkigajgeaa", sum := "05a3072be284a69231646e70697a544a555fe04f2203d436571255df3fdbef2f", func := "hoistway/hoistwaylaw04.JointResets", spec := "jointResets", apart := false, narrowed := true }
def JointResetsUptoSaid : Prop := jointResetsUptoRow.holds Try.pinned (OpenSpec.upto jointResetsSpec)

end Rows
end Go.Proofs.Ytdgafpkigajgeaa
