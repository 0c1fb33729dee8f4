/- The small one. -/
import Derived.Test.YtepfgheliddpmaaIsb
import Derived.BigQuiet
import Derived.Deep.QuietTactic
namespace Go.Proofs.Ytepfgheliddpmaa
open Go.RowKit Go.Lib
set_option linter.unusedVariables false

/-- a literal whose cells are known -/
theorem wpList_build_as {P : Program} {ops : Array Oper} {rest : List Oper} {o : Oper} {a : Act} {w : World} {Q : Exit → Act → World → Prop} (hg : o.guard = none) (t : TypeId) (parts : Array (Nat × Operand)) (ho : o.op = .build t parts) (cs : Array Value)
    (hf : P.built t (parts.map fun (i, x) => (i, a.eval x)).toList = some cs) (h : wpList P ops Q rest (a.put o.dst (.agg cs)) w) : wpList P ops Q (o :: rest) a w := by
  refine wpList_build hg t parts ho (by rw [hf]; rfl) ?_
  rw [hf]; exact h
def small : Cfg := ⟨[5, 1, 2, 4, 2, 4, 20, 100, 10, 1000, 2, 4, 4, 2, 0, 1, 1], 7, rfl⟩
set_option maxRecDepth 100000 in
theorem small_any (w : World) : Calls Try.prog 15 #[] w fun e w' => e = .returned small.V ∧ Below w.heap.size w w' := by
  have HZ := Lib.hid (CAt.new w zc)
  go_enter Try.func15, Try.ntmps15
  go_wp2_with (first | (refine wpList_build_as rfl 24 _ rfl small.cells (by kernel_rfl) ?_) | (refine wpList_store_row rfl 24 _ _ rfl _ small.cells rfl rfl 24 _ HZ.out (size24 small) (by rw [zc.size, small.size]) small.one ?_))
  refine bodyPost_ret (results_cell_row (P := Try.prog) Try.results15 _ _ w.heap.size 24 small.cells (0, 0) _ rfl (CAt.setRow HZ.out small) Try.underlying24 rfl (size24 small)) rfl ⟨rfl, below_setRow (below_new w _) (Nat.le_refl _) _⟩

end Go.Proofs.Ytepfgheliddpmaa
