/-
  No cell of these rows narrows 'for every input' (looked for: loops, veiled, ifaces, maps, wideKeys, modest, calm, conditions, laid).
  DERIVED. THE GIVEN ROWS OF THIS SEAT. 3 by the template 'for every input the law returns true; each argument reads behind the call as it read before'; 0 by the template 'total and deterministic' (their statements: YtlmdhkaplemjpaaGreatTotals.lean).
  GIVEN WITH THE SEED: the statements are not yours to turn. If you find one false, say at which input.
  Laid BY PROGRAM, IN A SANDBOX (cutbox-rows.mjs): the forced cells as the released guide's own fill.sh prints them over the translation 998d649cc8f6b8df… (all of the seat's roots in one cut). By AI agents, Wed Nov 11 2026. No macro, syntax, notation, axiom, sorry.
-/
import Derived.Test.YtlmdhkaplemjpaaGreatChecked
import GoSem.Claim
import GoSem.ClaimJoined
import GoSem.ClaimMapViews
import Derived.JoinedTies
import Derived.KernelRfl
namespace Go.Proofs.YtlmdhkaplemjpaaGreat
/- THE CELL 'sum', in the pinned program and in every row, IS THE sha256 OF THE DUMP (.gsa) THAT YtlmdhkaplemjpaaGreatProg.lean LOADS. Nothing in Lean hashes anything: it is a label: what it is worth is what the hold of that sum in a sandbox is worth. -/
noncomputable def Tryz.pinned : Pinned := { name := "ytlmdhkaplemjpaagreat", sum := "998d649cc8f6b8df7455dad6ac1515d90c5d390506b897d7f2e4e30e13c4b424", checked := Tryz.checked }
namespace Rows
def none {H : Type} : Left H := { results := [], args := [] }

/-- 'hoistwaylaw11.VaultExact': WHATEVER THE INPUT: true; the input reads as it did. -/
def vaultExactSpec : ChangeSpec := { name := "vaultExact", fn := fun _ => fun
  | [d1, d2] => { results := [.lit (.bool true)], args := [d1, d2] }
  | _ => none }
def vaultExactRow : OpenClaim := { program := "ytlmdhkaplemjpaagreat", sum := "998d649cc8f6b8df7455dad6ac1515d90c5d390506b897d7f2e4e30e13c4b424", func := "hoistway/hoistwaylaw11.VaultExact", spec := "vaultExact", unfollowed := true, recurses := true, apart := false }
def VaultExactSaid : Prop := vaultExactRow.holds Tryz.pinned (OpenSpec.ofChange vaultExactSpec)

/-- ITS FALSE NEIGHBOUR: 'it returns false'. Refute it at one input. -/
def vaultExactWrong : ChangeSpec := { name := "vaultExact", fn := fun _ => fun
  | [d1, d2] => { results := [.lit (.bool false)], args := [d1, d2] }
  | _ => none }
def VaultExactWrongFalsely : Prop := vaultExactRow.holds Tryz.pinned (OpenSpec.ofChange vaultExactWrong)

/-- 'hoistwaylaw11.VaultOne': WHATEVER THE INPUT: true; the input reads as it did. -/
def vaultOneSpec : ChangeSpec := { name := "vaultOne", fn := fun _ => fun
  | [d1, d2] => { results := [.lit (.bool true)], args := [d1, d2] }
  | _ => none }
def vaultOneRow : OpenClaim := { program := "ytlmdhkaplemjpaagreat", sum := "998d649cc8f6b8df7455dad6ac1515d90c5d390506b897d7f2e4e30e13c4b424", func := "hoistway/hoistwaylaw11.VaultOne", spec := "vaultOne", unfollowed := true, recurses := true, apart := false }
def VaultOneSaid : Prop := vaultOneRow.holds Tryz.pinned (OpenSpec.ofChange vaultOneSpec)

/-- ITS FALSE NEIGHBOUR: 'it returns false'. Refute it at one input. -/
def vaultOneWrong : ChangeSpec := { name := "vaultOne", fn := fun _ => fun
  | [d1, d2] => { results := [.lit (.bool false)], args := [d1, d2] }
  | _ => none }
def VaultOneWrongFalsely : Prop := vaultOneRow.holds Tryz.pinned (OpenSpec.ofChange vaultOneWrong)

/-- 'hoistwaylaw11.VaultTicks': WHATEVER THE INPUT: true; the input reads as it did. -/
def vaultTicksSpec : ChangeSpec := { name := "vaultTicks", fn := fun _ => fun
  | [d1, d2, d3, d4] => { results := [.lit (.bool true)], args := [d1, d2, d3, d4] }
  | _ => none }
def vaultTicksRow : OpenClaim := { program := "ytlmdhkaplemjpaagreat", sum := "998d649cc8f6b8df7455dad6ac1515d90c5d390506b897d7f2e4e30e13c4b424", func := "hoistway/hoistwaylaw11.VaultTicks", spec := "vaultTicks", unfollowed := true, recurses := true, apart := false }
def VaultTicksSaid : Prop := vaultTicksRow.holds Tryz.pinned (OpenSpec.ofChange vaultTicksSpec)

/-- ITS FALSE NEIGHBOUR: 'it returns false'. Refute it at one input. -/
def vaultTicksWrong : ChangeSpec := { name := "vaultTicks", fn := fun _ => fun
  | [d1, d2, d3, d4] => { results := [.lit (.bool false)], args := [d1, d2, d3, d4] }
  | _ => none }
def VaultTicksWrongFalsely : Prop := vaultTicksRow.holds Tryz.pinned (OpenSpec.ofChange vaultTicksWrong)

/- THE SECOND FORM. 'bulk': how many values and letters a reading holds, each counted each time it is reached (what is shared counts as often as it is met; a slice's spare places count too). A statement '..UptoSaid' is the law's where the arguments, and the package variables that the reading takes, are together of bulk at most 1048576: NARROWER than '..Said'. Prove '..Said' where nothing that the law and all that it calls make is longer than what came in: it says more and counts as full. Else prove '..UptoSaid'. A law counts once. -/
mutual
def uptoBulk {H : Type} : DataW H → Nat
  | .lit (.string bytes) => bytes.length + 1
  | .lit _ => 1
  | .nil => 1
  | .ptr d => uptoBulk d + 1
  | .slice elems spare => uptoBulkAll elems + uptoBulkAll spare + 1
  | .agg parts => uptoBulkAll parts + 1
  | .iface _ d => uptoBulk d + 1
  | .map entries => uptoBulkEntries entries + 1
  | .held _ => 1
def uptoBulkAll {H : Type} : List (DataW H) → Nat
  | [] => 0
  | d :: r => uptoBulk d + uptoBulkAll r
def uptoBulkEntries {H : Type} : List (Lit × DataW H) → Nat
  | [] => 0
  | x :: r => uptoBulkEntry x + uptoBulkEntries r
def uptoBulkEntry {H : Type} : Lit × DataW H → Nat
  | (.string bytes, d) => bytes.length + uptoBulk d + 1
  | (_, d) => uptoBulk d + 1
 end
def uptoSmall : (H : Type) → List (DataW H) → Bool := fun _ ds => decide (uptoBulkAll ds ≤ 1048576)
def OpenSpec.upto (s : _root_.Go.ChangeSpec) : _root_.Go.OpenSpec := { _root_.Go.OpenSpec.ofChange s with cond := some uptoSmall }

/-- 'hoistwaylaw11.VaultExact', WHERE WHAT IT READS IS OF BULK AT MOST 1048576: true; the input reads as it did. -/
def vaultExactUptoRow : OpenClaim := { program := "ytlmdhkaplemjpaagreat", sum := "998d649cc8f6b8df7455dad6ac1515d90c5d390506b897d7f2e4e30e13c4b424", func := "hoistway/hoistwaylaw11.VaultExact", spec := "vaultExact", unfollowed := true, recurses := true, apart := false, narrowed := true }
def VaultExactUptoSaid : Prop := vaultExactUptoRow.holds Tryz.pinned (OpenSpec.upto vaultExactSpec)

/-- 'hoistwaylaw11.VaultOne', WHERE WHAT IT READS IS OF BULK AT MOST 1048576: true; the input reads as it did. -/
def vaultOneUptoRow : OpenClaim := { program := "ytlmdhkaplemjpaagreat", sum := "998d649cc8f6b8df7455dad6ac1515d90c5d390506b897d7f2e4e30e13c4b424", func := "hoistway/hoistwaylaw11.VaultOne", spec := "vaultOne", unfollowed := true, recurses := true, apart := false, narrowed := true }
def VaultOneUptoSaid : Prop := vaultOneUptoRow.holds Tryz.pinned (OpenSpec.upto vaultOneSpec)

/-- 'hoistwaylaw11.VaultTicks', WHERE WHAT IT READS IS OF BULK AT MOST 1048576: true; the input reads as it did. -/
def vaultTicksUptoRow : OpenClaim := { program := "ytlmdhkaplemjpaagreat", sum := "998d649cc8f6b8df7455dad6ac1515d90c5d390506b897d7f2e4e30e13c4b424", func := "hoistway/hoistwaylaw11.VaultTicks", spec := "vaultTicks", unfollowed := true, recurses := true, apart := false, narrowed := true }
def VaultTicksUptoSaid : Prop := vaultTicksUptoRow.holds Tryz.pinned (OpenSpec.upto vaultTicksSpec)

end Rows
end Go.Proofs.YtlmdhkaplemjpaaGreat
