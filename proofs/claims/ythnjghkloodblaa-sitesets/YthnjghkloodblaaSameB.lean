/- Laws for one operation on configurations, with its kind asked first. -/
import Derived.Test.YthnjghkloodblaaSame
namespace Go.Proofs.Ythnjghkloodblaa
open Go.RowKit Go.Lib
set_option linter.unusedVariables false
set_option linter.unusedSimpArgs false

/-- the same laws, with the operation's kind asked first (so that they fail at once elsewhere) -/
theorem wpList_load_at {ops : Array Oper} {rest : List Oper} {o : Oper} {a : Act} {w : World} {Q : Exit → Act → World → Prop} (x : Tmp) (ho : o.op = .load 24 (.tmp x)) (hgd : Region.wanted o (yielded ops a.tmps) = true) {p : Nat} {c : Cfg} (e : a.eval (.tmp x) = ptr p 0) (h : CAt w p c)
    (k : wpList Try.prog ops Q rest (a.put o.dst c.V) w) : wpList Try.prog ops Q (o :: rest) a w :=
  wpList_load_rowG hgd 24 (.tmp x) ho p e 24 c.cells (0, 0) _ h Try.underlying24 rfl (size24 c) k
theorem wpList_neq_at {ops : Array Oper} {rest : List Oper} {o : Oper} {a : Act} {w : World} {Q : Exit → Act → World → Prop} (x y : Tmp) (t2 : TypeId) (ho : o.op = .binOp .neq 24 (.tmp x) (.tmp y) t2) (hgd : Region.wanted o (yielded ops a.tmps) = true) {c : Cfg} (e1 : a.eval (.tmp x) = c.V) (e2 : a.eval (.tmp y) = c.V)
    (k : wpList Try.prog ops Q rest (a.put o.dst (.bool false)) w) : wpList Try.prog ops Q (o :: rest) a w := by
  obtain ⟨d, op, t, pos, af, gd⟩ := o
  subst ho
  exact wpList_run hgd (.bool false) (run_neq24 e1 e2) k
theorem wpList_eql_at {ops : Array Oper} {rest : List Oper} {o : Oper} {a : Act} {w : World} {Q : Exit → Act → World → Prop} (x y : Tmp) (t2 : TypeId) (ho : o.op = .binOp .eql 24 (.tmp x) (.tmp y) t2) (hgd : Region.wanted o (yielded ops a.tmps) = true) {c : Cfg} (e1 : a.eval (.tmp x) = c.V) (e2 : a.eval (.tmp y) = c.V)
    (k : wpList Try.prog ops Q rest (a.put o.dst (.bool true)) w) : wpList Try.prog ops Q (o :: rest) a w := by
  obtain ⟨d, op, t, pos, af, gd⟩ := o
  subst ho
  exact wpList_run hgd (.bool true) (run_eql24 e1 e2) k
end Go.Proofs.Ythnjghkloodblaa
