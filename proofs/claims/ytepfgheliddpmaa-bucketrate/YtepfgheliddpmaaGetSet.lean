/- The number of a name, and another one. -/
import Derived.Test.YtepfgheliddpmaaFind
import Derived.Laws.Rows
import Derived.Laws.CopyOwn
import Derived.Deep.WholeRow
namespace Go.Proofs.Ytepfgheliddpmaa
open Go.RowKit Go.Lib
set_option linter.unusedVariables false

theorem size24 (c : Cfg) : (Try.prog.info? 24).map (·.size) = some c.cells.size := by rw [c.size]; kernel_rfl
theorem Cfg.one (c : Cfg) : c.cells.all (·.oneCell') = true := by
  rw [← Array.all_toList, List.all_eq_true]
  intro x hx
  simp [Cfg.cells] at hx
  rcases hx with ⟨a, _, rfl⟩ | rfl <;> rfl
/-- a configuration lies in a block -/
abbrev CAt (w : World) (p : Nat) (c : Cfg) : Prop := At w p 24 c.cells
theorem CAt.get {w : World} {p : Nat} {c : Cfg} (h : CAt w p c) {k : Nat} (hk : k < 17) : w.cell? ⟨p, k, none⟩ = some (.int .i64 (c.get k)) := by rw [At.cell h, c.at_ hk]
theorem CAt.sec {w : World} {p : Nat} {c : Cfg} (h : CAt w p c) : w.cell? ⟨p, 17, none⟩ = some (.int .u32 c.s) := by rw [At.cell h, c.atS]
theorem CAt.step {w w' : World} {p : Nat} {c : Cfg} (h : CAt w p c) (hb : Below w.heap.size w w') : CAt w' p c := At.below h hb (At.lt h)
theorem CAt.new (w : World) (c : Cfg) : CAt (w.alloc (.cells c.cells 24)) w.heap.size c := At.new w 24 _
theorem CAt.load {w : World} {p : Nat} {c : Cfg} (h : CAt w p c) : (loadVar 24 ⟨p, 0, none⟩).run Try.prog w = .ok c.V w := run_loadVar_row w p 24 24 c.cells (0, 0) _ h Try.underlying24 rfl (size24 c)
def zc : Cfg := ⟨List.replicate 17 0, 0, rfl⟩
theorem CAt.setRow {w : World} {q : Nat} {c : Cfg} (h : CAt w q c) (d : Cfg) : CAt (w.setRow q d.cells) q d := setRow_heap w q c.cells d.cells 24 (0, 0) h
end Go.Proofs.Ytepfgheliddpmaa
