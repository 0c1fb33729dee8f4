/- Loads and stores of structs that lie within a block: the operation's kind asked first. No Go text. -/
import Derived.Test.YtodacdooooeofaaK
import Derived.Deep.MidRow
namespace Go.Proofs.Ytodacdooooeofaa
open Go.RowKit Go.Lib
set_option linter.unusedVariables false
set_option linter.unusedSimpArgs false

section
variable {ops : Array Oper} {rest : List Oper} {o : Oper} {a : Act} {w : World} {Q : Exit → Act → World → Prop}
theorem wpList_load_part (ty : TypeId) (x : Tmp) (ho : o.op = .load ty (.tmp x)) (hgd : Region.wanted o (yielded ops a.tmps) = true) {p off : Nat} {cs : Array Value} (e : a.eval (.tmp x) = ptr p off) (h : w.rangeAt p off cs.toList) {d : TypeDesc} (hu : Try.prog.underlying ty = some d) (hd : d.isRow = true) (hi : (Try.prog.info? ty).map (·.size) = some cs.size)
    (k : wpList Try.prog ops Q rest (a.put o.dst (.agg cs)) w) : wpList Try.prog ops Q (o :: rest) a w := by
  refine wpList_run hgd (.agg cs) ?_ k
  unfold execOp
  simp only [ho, e, Instr.loadAt, Instr.sureAddr, Sem.run_bind, Sem.run_pure, Result.andThen_ok, run_loadVar_mid (P := Try.prog) w p off ty cs.toList d h hu hd (by simpa using hi), Array.toArray_toList]
/-- a call within a block -/
theorem wpList_load_kpart (x : Tmp) (ho : o.op = .load 37 (.tmp x)) (hgd : Region.wanted o (yielded ops a.tmps) = true) {p off : Nat} {c : K} (e : a.eval (.tmp x) = ptr p off) (h : w.rangeAt p off c.cells.toList)
    (k : wpList Try.prog ops Q rest (a.put o.dst c.V) w) : wpList Try.prog ops Q (o :: rest) a w :=
  wpList_load_part 37 x ho hgd e h Try.underlying37 rfl (size26 c) k
/-- a configuration within a block -/
theorem wpList_load_cpart (x : Tmp) (ho : o.op = .load 24 (.tmp x)) (hgd : Region.wanted o (yielded ops a.tmps) = true) {p off : Nat} {c : Cfg} (e : a.eval (.tmp x) = ptr p off) (h : w.rangeAt p off c.cells.toList)
    (k : wpList Try.prog ops Q rest (a.put o.dst c.V) w) : wpList Try.prog ops Q (o :: rest) a w :=
  wpList_load_part 24 x ho hgd e h Try.underlying24 rfl (size24 c) k
end
theorem rangeAt_of_at {w : World} {p off : Nat} {t : TypeId} {cs sub : Array Value} (h : At w p t cs) (hs : ∀ j u, sub[j]? = some u → cs[off + j]? = some u) : w.rangeAt p off sub.toList := fun j u hu => by
  rw [At.cell h]
  exact hs j u (by simpa using hu)
theorem setRow_below {w W : World} {q : Nat} (hb : Below w.heap.size w W) (hq : w.heap.size ≤ q) (cs : Array Value) : Below w.heap.size w (W.setRow q cs) := below_setRow hb hq _
end Go.Proofs.Ytodacdooooeofaa
