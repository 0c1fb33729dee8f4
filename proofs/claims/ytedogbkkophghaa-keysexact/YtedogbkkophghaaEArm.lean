/- Entries: where they lie; loads and stores of structs. No Go text. -/
import Derived.Test.YtedogbkkophghaaEnt
import Derived.Test.YtedogbkkophghaaRef
import Derived.Laws.StructEq
import Derived.ChangeKeysEq
import Derived.Deep.CutRange
import Derived.Deep.MidRow
namespace Go.Proofs.Ytedogbkkophghaa
open Go.RowKit Go.Lib
set_option linter.unusedVariables false
set_option linter.unusedSimpArgs false

theorem E.size (x : E) : x.cells.size = 3 := rfl
theorem sizeE (x : E) : (Try.prog.info? 65).map (·.size) = some x.cells.size := by rw [x.size]; kernel_rfl
theorem E.one (x : E) : x.cells.all (·.oneCell') = true := by simp [E.cells, Value.oneCell']
/-- an entry lies in a block -/
abbrev EAt (w : World) (p : Nat) (x : E) : Prop := At w p 65 x.cells
section
variable {w w' : World} {p : Nat} {x : E}
theorem EAt.get0 (h : EAt w p x) : w.cell? ⟨p, 0, none⟩ = some (.int .i64 x.last) := by rw [At.cell h]; rfl
theorem EAt.get1 (h : EAt w p x) : w.cell? ⟨p, 1, none⟩ = some (.string x.body) := by rw [At.cell h]; rfl
theorem EAt.get2 (h : EAt w p x) : w.cell? ⟨p, 2, none⟩ = some (.string x.ans) := by rw [At.cell h]; rfl
theorem EAt.step (h : EAt w p x) (hb : Below w.heap.size w w') : EAt w' p x := At.below h hb (At.lt h)
theorem EAt.new (w : World) (x : E) : EAt (w.alloc (.cells x.cells 65)) w.heap.size x := At.new w 65 _
theorem EAt.load (h : EAt w p x) : (loadVar 65 ⟨p, 0, none⟩).run Try.prog w = .ok x.V w := run_loadVar_row w p 65 65 x.cells (0, 0) _ h Try.underlying65 rfl (sizeE x)
theorem EAt.setRow (h : EAt w p x) (d : E) : EAt (w.setRow p d.cells) p d := setRow_heap w p x.cells d.cells 65 (0, 0) h
end
/-- one operation whose run is known -/
theorem wpList_run {P : Program} {ops : Array Oper} {rest : List Oper} {o : Oper} {a : Act} {w w' : World} {Q : Exit → Act → World → Prop} (hgd : Region.wanted o (yielded ops a.tmps) = true) (v : Value)
    (hrun : (execOp a.eval o).run P w = .ok (.value v) w') (h : wpList P ops Q rest (a.put o.dst v) w') : wpList P ops Q (o :: rest) a w := by
  unfold wpList
  rw [if_pos hgd]
  refine .inl ?_
  unfold Oper.wp
  rw [hrun, Oper.upon_value]
  exact h
section
variable {ops : Array Oper} {rest : List Oper} {o : Oper} {a : Act} {w : World} {Q : Exit → Act → World → Prop}
/-- the load of a configuration, of an entry: the operation's kind asked first -/
theorem wpList_load_cat (x : Tmp) (ho : o.op = .load 24 (.tmp x)) (hgd : Region.wanted o (yielded ops a.tmps) = true) {p : Nat} {c : Cfg} (e : a.eval (.tmp x) = ptr p 0) (h : CAt w p c)
    (k : wpList Try.prog ops Q rest (a.put o.dst c.V) w) : wpList Try.prog ops Q (o :: rest) a w :=
  wpList_load_rowG hgd 24 (.tmp x) ho p e 24 c.cells (0, 0) _ h Try.underlying24 rfl (size24 c) k
theorem wpList_load_eat (x : Tmp) (ho : o.op = .load 65 (.tmp x)) (hgd : Region.wanted o (yielded ops a.tmps) = true) {p : Nat} {c : E} (e : a.eval (.tmp x) = ptr p 0) (h : EAt w p c)
    (k : wpList Try.prog ops Q rest (a.put o.dst c.V) w) : wpList Try.prog ops Q (o :: rest) a w :=
  wpList_load_rowG hgd 65 (.tmp x) ho p e 65 c.cells (0, 0) _ h Try.underlying65 rfl (sizeE c) k
theorem wpList_store_eat (x y : Tmp) (ho : o.op = .store 65 (.tmp x) (.tmp y)) (hgd : o.guard = none) {q : Nat} {c z : E} (e1 : a.eval (.tmp x) = ptr q 0) (e2 : a.eval (.tmp y) = c.V) (hq : EAt w q z)
    (k : wpList Try.prog ops Q rest (a.put o.dst undef) (w.setRow q c.cells)) : wpList Try.prog ops Q (o :: rest) a w :=
  wpList_store_row hgd 65 (.tmp x) (.tmp y) ho q c.cells e1 e2 65 z.cells hq (sizeE c) (by rw [z.size, c.size]) c.one k
theorem wpList_load_part (ty : TypeId) (x : Tmp) (ho : o.op = .load ty (.tmp x)) (hgd : Region.wanted o (yielded ops a.tmps) = true) {p off : Nat} {cs : Array Value} (e : a.eval (.tmp x) = ptr p off) (h : w.rangeAt p off cs.toList) {d : TypeDesc} (hu : Try.prog.underlying ty = some d) (hd : d.isRow = true) (hi : (Try.prog.info? ty).map (·.size) = some cs.size)
    (k : wpList Try.prog ops Q rest (a.put o.dst (.agg cs)) w) : wpList Try.prog ops Q (o :: rest) a w := by
  refine wpList_run hgd (.agg cs) ?_ k
  unfold execOp
  simp only [ho, e, Instr.loadAt, Instr.sureAddr, Sem.run_bind, Sem.run_pure, Result.andThen_ok, run_loadVar_mid (P := Try.prog) w p off ty cs.toList d h hu hd (by simpa using hi), Array.toArray_toList]
/-- an entry within a block -/
theorem wpList_load_epart (x : Tmp) (ho : o.op = .load 65 (.tmp x)) (hgd : Region.wanted o (yielded ops a.tmps) = true) {p off : Nat} {c : E} (e : a.eval (.tmp x) = ptr p off) (h : w.rangeAt p off c.cells.toList)
    (k : wpList Try.prog ops Q rest (a.put o.dst c.V) w) : wpList Try.prog ops Q (o :: rest) a w :=
  wpList_load_part 65 x ho hgd e h Try.underlying65 rfl (sizeE c) k
/-- a configuration within a block -/
theorem wpList_load_cpart (x : Tmp) (ho : o.op = .load 24 (.tmp x)) (hgd : Region.wanted o (yielded ops a.tmps) = true) {p off : Nat} {c : Cfg} (e : a.eval (.tmp x) = ptr p off) (h : w.rangeAt p off c.cells.toList)
    (k : wpList Try.prog ops Q rest (a.put o.dst c.V) w) : wpList Try.prog ops Q (o :: rest) a w :=
  wpList_load_part 24 x ho hgd e h Try.underlying24 rfl (size24 c) k
end
theorem rangeAt_of_at {w : World} {p off : Nat} {t : TypeId} {cs sub : Array Value} (h : At w p t cs) (hs : ∀ j u, sub[j]? = some u → cs[off + j]? = some u) : w.rangeAt p off sub.toList := fun j u hu => by
  rw [At.cell h]
  exact hs j u (by simpa using hu)
theorem setRow_below {w W : World} {q : Nat} (hb : Below w.heap.size w W) (hq : w.heap.size ≤ q) (cs : Array Value) : Below w.heap.size w (W.setRow q cs) := below_setRow hb hq _
/-- results: an entry that lies in a cell, and a value -/
theorem results_pair {fn : Func} {p q : Tmp} (h : fn.results = #[.cell p 65, .tmp q]) {tmps : Array Value} {w : World} {g : Nat} {x : E} {v : Value} (hp : tmps.getD p undef = ptr g 0) (hq : tmps.getD q undef = v) (hg : EAt w g x) :
    (results fn tmps).run Try.prog w = .ok (.tuple #[x.V, v]) w := by
  rw [Array.getD_eq_getD_getElem?] at hp hq
  simp [results, h, hp, hq, asAddr, EAt.load hg]
end Go.Proofs.Ytedogbkkophghaa
