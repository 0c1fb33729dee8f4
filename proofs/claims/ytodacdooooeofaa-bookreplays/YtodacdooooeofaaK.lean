/- Calls as eight plain numbers; where they lie; what is compared. -/
import Derived.Test.YtodacdooooeofaaRef
import Derived.Laws.StructEq
import Derived.ChangeKeysEq
import Derived.Deep.CutRange
namespace Go.Proofs.Ytodacdooooeofaa
open Go.RowKit Go.Lib
set_option linter.unusedVariables false
set_option linter.unusedSimpArgs false

/-- a call -/
structure K where
  id : Int
  kind : Int
  frm : Int
  dto : Int
  car : Int
  st : Int
  own : Int
  born : Int
def K.cells (x : K) : Array Value := #[.int .i64 x.id, .int .i64 x.kind, .int .i64 x.frm, .int .i64 x.dto, .int .i64 x.car, .int .i64 x.st, .int .i64 x.own, .int .i64 x.born]
abbrev K.V (x : K) : Value := .agg x.cells
/-- no call -/
def zk : K := ⟨0, 0, 0, 0, 0, 0, 0, 0⟩
theorem K.size (x : K) : x.cells.size = 8 := rfl
theorem size26 (x : K) : (Try.prog.info? 37).map (·.size) = some x.cells.size := by rw [x.size]; kernel_rfl
theorem K.one (x : K) : x.cells.all (·.oneCell') = true := by simp [K.cells, Value.oneCell']
/-- a call lies in a block -/
abbrev KAt (w : World) (p : Nat) (x : K) : Prop := At w p 37 x.cells
section
variable {w w' : World} {p : Nat} {x : K}
theorem KAt.get0 (h : KAt w p x) : w.cell? ⟨p, 0, none⟩ = some (.int .i64 x.id) := by rw [At.cell h]; rfl
theorem KAt.get1 (h : KAt w p x) : w.cell? ⟨p, 1, none⟩ = some (.int .i64 x.kind) := by rw [At.cell h]; rfl
theorem KAt.get2 (h : KAt w p x) : w.cell? ⟨p, 2, none⟩ = some (.int .i64 x.frm) := by rw [At.cell h]; rfl
theorem KAt.get3 (h : KAt w p x) : w.cell? ⟨p, 3, none⟩ = some (.int .i64 x.dto) := by rw [At.cell h]; rfl
theorem KAt.get4 (h : KAt w p x) : w.cell? ⟨p, 4, none⟩ = some (.int .i64 x.car) := by rw [At.cell h]; rfl
theorem KAt.get5 (h : KAt w p x) : w.cell? ⟨p, 5, none⟩ = some (.int .i64 x.st) := by rw [At.cell h]; rfl
theorem KAt.get6 (h : KAt w p x) : w.cell? ⟨p, 6, none⟩ = some (.int .i64 x.own) := by rw [At.cell h]; rfl
theorem KAt.get7 (h : KAt w p x) : w.cell? ⟨p, 7, none⟩ = some (.int .i64 x.born) := by rw [At.cell h]; rfl
theorem KAt.step (h : KAt w p x) (hb : Below w.heap.size w w') : KAt w' p x := At.below h hb (At.lt h)
theorem KAt.all (h : KAt w p x) : ∀ W, Below w.heap.size w W → KAt W p x := fun W hb => h.step hb
theorem KAt.new (w : World) (x : K) : KAt (w.alloc (.cells x.cells 37)) w.heap.size x := At.new w 37 _
theorem KAt.load (h : KAt w p x) : (loadVar 37 ⟨p, 0, none⟩).run Try.prog w = .ok x.V w := run_loadVar_row w p 37 37 x.cells (0, 0) _ h Try.underlying37 rfl (size26 x)
theorem KAt.setRow (h : KAt w p x) (d : K) : KAt (w.setRow p d.cells) p d := setRow_heap w p x.cells d.cells 37 (0, 0) h
theorem KAt.set2 (h : KAt w p x) (n : Int) : KAt (w.setCell ⟨p, 2, none⟩ (.int .i64 n)) p { x with frm := n } := At.set h 2 _
theorem KAt.set4 (h : KAt w p x) (n : Int) : KAt (w.setCell ⟨p, 4, none⟩ (.int .i64 n)) p { x with car := n } := At.set h 4 _
theorem KAt.set5 (h : KAt w p x) (n : Int) : KAt (w.setCell ⟨p, 5, none⟩ (.int .i64 n)) p { x with st := n } := At.set h 5 _
theorem KAt.set0 (h : KAt w p x) (n : Int) : KAt (w.setCell ⟨p, 0, none⟩ (.int .i64 n)) p { x with id := n } := At.set h 0 _
theorem KAt.set6 (h : KAt w p x) (n : Int) : KAt (w.setCell ⟨p, 6, none⟩ (.int .i64 n)) p { x with own := n } := At.set h 6 _
theorem KAt.set7 (h : KAt w p x) (n : Int) : KAt (w.setCell ⟨p, 7, none⟩ (.int .i64 n)) p { x with born := n } := At.set h 7 _
end
/-- whether two are the same -/
def K.beq (x y : K) : Bool := x.id == y.id && (x.kind == y.kind && (x.frm == y.frm && (x.dto == y.dto && (x.car == y.car && (x.st == y.st && (x.own == y.own && x.born == y.born))))))
theorem K.beq_iff {x y : K} : x.beq y = true ↔ x = y := by
  cases x; cases y; simp [K.beq]
theorem K.beq_self (x : K) : x.beq x = true := K.beq_iff.2 rfl
theorem K.beq_ne {x y : K} (h : x ≠ y) : x.beq y = false := by
  cases e : x.beq y
  · rfl
  · exact absurd (K.beq_iff.1 e) h
theorem eqI {a b : Int} (hab : a = b) : (a == b) = true := by simp [hab]
theorem part_int {t : TypeId} {k : IntKind} (ht : Try.prog.underlying t = some (.int k)) {xs : Array Value} {off : Nat} {v : Value} (h : xs[off]? = some v) (w : World) : (part t xs off).run Try.prog w = .ok v w := by
  have hagg : (isAgg t).run Try.prog w = .ok false w := by
    unfold isAgg
    rw [Sem.run_bind, run_underlying ht w]
    simp
  simp [part, Sem.run_bind, hagg, h]
/-- the numbers that a row of fields compares -/
def allEq (xs ys : Array Value) : List Field → Bool
  | [] => true
  | f :: fs => (match xs[f.offset]?, ys[f.offset]? with | some (.int _ a), some (.int _ b) => a == b | _, _ => false) && allEq xs ys fs
theorem eq_fields {xs ys : Array Value} (d : Nat) (w : World) : ∀ fs : List Field, (∀ f ∈ fs, f.type = 3 ∧ f.name ≠ "_" ∧ ∃ n m, xs[f.offset]? = some (.int .i64 n) ∧ ys[f.offset]? = some (.int .i64 m)) → (Op.eqFields (d + 1) xs ys fs).run Try.prog w = .ok (allEq xs ys fs) w
  | [], _ => by simp [Op.eqFields, allEq]
  | f :: fs, h => by
    have ih := eq_fields d w fs (fun g hg => h g (by simp [hg]))
    obtain ⟨ht, hb, n, m, hv, hu⟩ := h f (by simp)
    have u3 : Try.prog.underlying f.type = some (.int .i64) := by rw [ht]; exact Try.underlying3
    unfold Op.eqFields
    rw [if_pos hb, Sem.run_bind, part_int u3 hv w, Result.andThen_ok, Sem.run_bind, part_int u3 hu w, Result.andThen_ok, Sem.run_bind, run_equalIn_int w d f.type .i64 _ n m u3, Result.andThen_ok]
    simp only [allEq, hv, hu]
    cases n == m <;> simp [ih]
theorem fields_small : (Try.prog.fieldsOf 37).toList.all (fun f => f.type == 3 && (f.name != "_") && decide (f.offset < 8)) = true := by kernel_rfl
theorem fields_offs : (Try.prog.fieldsOf 37).toList.map (·.offset) = [0, 1, 2, 3, 4, 5, 6, 7] := by kernel_rfl
theorem K.int (x : K) {k : Nat} (h : k < 8) : ∃ n, x.cells[k]? = some (.int .i64 n) := by
  match k, h with
  | 0, _ => exact ⟨_, rfl⟩
  | 1, _ => exact ⟨_, rfl⟩
  | 2, _ => exact ⟨_, rfl⟩
  | 3, _ => exact ⟨_, rfl⟩
  | 4, _ => exact ⟨_, rfl⟩
  | 5, _ => exact ⟨_, rfl⟩
  | 6, _ => exact ⟨_, rfl⟩
  | 7, _ => exact ⟨_, rfl⟩
  | n + 8, h => exact absurd h (by omega)
def allEqO (xs ys : Array Value) : List Nat → Bool
  | [] => true
  | o :: os => (match xs[o]?, ys[o]? with | some (.int _ a), some (.int _ b) => a == b | _, _ => false) && allEqO xs ys os
theorem allEq_offs (xs ys : Array Value) : ∀ fs : List Field, allEq xs ys fs = allEqO xs ys (fs.map (·.offset))
  | [] => rfl
  | f :: fs => by simp only [allEq, List.map_cons, allEqO]; rw [allEq_offs xs ys fs]
set_option maxRecDepth 100000 in
theorem eq26 (x y : K) (w : World) : (Op.equalIn 10000 37 x.V y.V).run Try.prog w = .ok (x.beq y) w := by
  rw [run_equalIn_struct w 9999 37 x.cells y.cells (by rw [Try.underlying37]; congr 1) (by kernel_rfl)]
  rw [eq_fields 9998 w _ fun f hf => ?_]
  · rw [allEq_offs, fields_offs]
    have : allEqO x.cells y.cells [0, 1, 2, 3, 4, 5, 6, 7] = x.beq y := by
      simp [allEqO, K.cells, K.beq]
    rw [this]
  · have := List.all_eq_true.1 fields_small f hf
    simp at this
    obtain ⟨n, hn⟩ := x.int this.2
    obtain ⟨m, hm⟩ := y.int this.2
    exact ⟨this.1.1, this.1.2, n, m, hn, hm⟩
section
variable {ρ : Operand → Value} {w : World} {d : Option Tmp} {t t2 : TypeId} {pos : String} {af : Array Edge} {gd : Option (Nat × Bool)} {a b : Operand}
theorem run_eql26 {x y : K} (e1 : ρ a = x.V) (e2 : ρ b = y.V) : (execOp ρ { dst := d, op := Op.binOp .eql 37 a b t2, type := t, pos := pos, after := af, guard := gd }).run Try.prog w = .ok (.value (.bool (x.beq y))) w := by
  unfold execOp
  simp only [e1, e2, Sem.run_bind, run_eqGuard_agg (P := Try.prog) w .eql 37 a b x.cells y.cells (by kernel_rfl), Result.andThen_ok, run_eql_struct, eq26 x y, Sem.run_pure]
theorem run_neq26 {x y : K} (e1 : ρ a = x.V) (e2 : ρ b = y.V) : (execOp ρ { dst := d, op := Op.binOp .neq 37 a b t2, type := t, pos := pos, after := af, guard := gd }).run Try.prog w = .ok (.value (.bool (!x.beq y))) w := by
  unfold execOp
  simp only [e1, e2, Sem.run_bind, run_eqGuard_agg (P := Try.prog) w .neq 37 a b x.cells y.cells (by kernel_rfl), Result.andThen_ok, run_neq_struct, eq26 x y, Sem.run_pure]
theorem run_load_k {p : Nat} {x : K} (e : ρ a = ptr p 0) (h : KAt w p x) : (execOp ρ { dst := d, op := Op.load 37 a, type := t, pos := pos, after := af, guard := gd }).run Try.prog w = .ok (.value x.V) w := by
  unfold execOp
  simp only [e, Instr.loadAt, Instr.sureAddr, Sem.run_bind, Sem.run_pure, Result.andThen_ok, KAt.load h]
end
/-- one operation whose run is known -/
theorem wpList_run {P : Program} {ops : Array Oper} {rest : List Oper} {o : Oper} {a : Act} {w w' : World} {Q : Exit → Act → World → Prop} (hgd : Region.wanted o (yielded ops a.tmps) = true) (v : Value)
    (hrun : (execOp a.eval o).run P w = .ok (.value v) w') (h : wpList P ops Q rest (a.put o.dst v) w') : wpList P ops Q (o :: rest) a w := by
  unfold wpList
  rw [if_pos hgd]
  refine .inl ?_
  unfold Oper.wp
  rw [hrun, Oper.upon_value]
  exact h
section
variable {ops : Array Oper} {rest : List Oper} {o : Oper} {a : Act} {w : World} {Q : Exit → Act → World → Prop}
/-- the load of a configuration, of a call: the operation's kind asked first -/
theorem wpList_load_cat (x : Tmp) (ho : o.op = .load 24 (.tmp x)) (hgd : Region.wanted o (yielded ops a.tmps) = true) {p : Nat} {c : Cfg} (e : a.eval (.tmp x) = ptr p 0) (h : CAt w p c)
    (k : wpList Try.prog ops Q rest (a.put o.dst c.V) w) : wpList Try.prog ops Q (o :: rest) a w :=
  wpList_load_rowG hgd 24 (.tmp x) ho p e 24 c.cells (0, 0) _ h Try.underlying24 rfl (size24 c) k
theorem wpList_load_kat (x : Tmp) (ho : o.op = .load 37 (.tmp x)) (hgd : Region.wanted o (yielded ops a.tmps) = true) {p : Nat} {c : K} (e : a.eval (.tmp x) = ptr p 0) (h : KAt w p c)
    (k : wpList Try.prog ops Q rest (a.put o.dst c.V) w) : wpList Try.prog ops Q (o :: rest) a w :=
  wpList_load_rowG hgd 37 (.tmp x) ho p e 37 c.cells (0, 0) _ h Try.underlying37 rfl (size26 c) k
theorem wpList_eql_kat (x y : Tmp) (t2 : TypeId) (ho : o.op = .binOp .eql 37 (.tmp x) (.tmp y) t2) (hgd : Region.wanted o (yielded ops a.tmps) = true) {c d : K} (e1 : a.eval (.tmp x) = c.V) (e2 : a.eval (.tmp y) = d.V) {b : Bool} (hb : c.beq d = b)
    (k : wpList Try.prog ops Q rest (a.put o.dst (.bool b)) w) : wpList Try.prog ops Q (o :: rest) a w := by
  obtain ⟨d, op, t, pos, af, gd⟩ := o
  subst ho
  subst hb
  exact wpList_run hgd _ (run_eql26 e1 e2) k
theorem wpList_neq_kat (x y : Tmp) (t2 : TypeId) (ho : o.op = .binOp .neq 37 (.tmp x) (.tmp y) t2) (hgd : Region.wanted o (yielded ops a.tmps) = true) {c d : K} (e1 : a.eval (.tmp x) = c.V) (e2 : a.eval (.tmp y) = d.V) {b : Bool} (hb : (!c.beq d) = b)
    (k : wpList Try.prog ops Q rest (a.put o.dst (.bool b)) w) : wpList Try.prog ops Q (o :: rest) a w := by
  obtain ⟨d, op, t, pos, af, gd⟩ := o
  subst ho
  subst hb
  exact wpList_run hgd _ (run_neq26 e1 e2) k
theorem wpList_store_kat (x y : Tmp) (ho : o.op = .store 37 (.tmp x) (.tmp y)) (hgd : o.guard = none) {q : Nat} {c z : K} (e1 : a.eval (.tmp x) = ptr q 0) (e2 : a.eval (.tmp y) = c.V) (hq : KAt w q z)
    (k : wpList Try.prog ops Q rest (a.put o.dst undef) (w.setRow q c.cells)) : wpList Try.prog ops Q (o :: rest) a w :=
  wpList_store_row hgd 37 (.tmp x) (.tmp y) ho q c.cells e1 e2 37 z.cells hq (size26 c) (by rw [z.size, c.size]) c.one k
end
/-- results: a call that lies in a cell, and a number -/
theorem results_pair {fn : Func} {p q : Tmp} (h : fn.results = #[.cell p 37, .tmp q]) {tmps : Array Value} {w : World} {g : Nat} {x : K} {v : Value} (hp : tmps.getD p undef = ptr g 0) (hq : tmps.getD q undef = v) (hg : KAt w g x) :
    (results fn tmps).run Try.prog w = .ok (.tuple #[x.V, v]) w := by
  rw [Array.getD_eq_getD_getElem?] at hp hq
  simp [results, h, hp, hq, asAddr, KAt.load hg]
end Go.Proofs.Ytodacdooooeofaa
