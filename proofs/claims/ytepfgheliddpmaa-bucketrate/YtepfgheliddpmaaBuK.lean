/- Buckets as two plain numbers; where they lie; what is compared. -/
import Derived.Test.YtepfgheliddpmaaRef
import Derived.Laws.StructEq
import Derived.ChangeKeysEq
import Derived.Deep.CutRange
namespace Go.Proofs.Ytepfgheliddpmaa
open Go.RowKit Go.Lib
set_option linter.unusedVariables false
set_option linter.unusedSimpArgs false

/-- a bucket -/
structure Bt where
  tok : Int
  last : Int
def Bt.cells (x : Bt) : Array Value := #[.int .i64 x.tok, .int .i64 x.last]
abbrev Bt.V (x : Bt) : Value := .agg x.cells
/-- none -/
def zb : Bt := ⟨0, 0⟩
theorem Bt.size (x : Bt) : x.cells.size = 2 := rfl
theorem sizeBt (x : Bt) : (Try.prog.info? 26).map (·.size) = some x.cells.size := by rw [x.size]; kernel_rfl
theorem Bt.one (x : Bt) : x.cells.all (·.oneCell') = true := by simp [Bt.cells, Value.oneCell']
/-- a bucket lies in a block -/
abbrev BtAt (w : World) (p : Nat) (x : Bt) : Prop := At w p 26 x.cells
section
variable {w w' : World} {p : Nat} {x : Bt}
theorem BtAt.get0 (h : BtAt w p x) : w.cell? ⟨p, 0, none⟩ = some (.int .i64 x.tok) := by rw [At.cell h]; rfl
theorem BtAt.get1 (h : BtAt w p x) : w.cell? ⟨p, 1, none⟩ = some (.int .i64 x.last) := by rw [At.cell h]; rfl
theorem BtAt.step (h : BtAt w p x) (hb : Below w.heap.size w w') : BtAt w' p x := At.below h hb (At.lt h)
theorem BtAt.all (h : BtAt w p x) : ∀ W, Below w.heap.size w W → BtAt W p x := fun W hb => h.step hb
theorem BtAt.new (w : World) (x : Bt) : BtAt (w.alloc (.cells x.cells 26)) w.heap.size x := At.new w 26 _
theorem BtAt.load (h : BtAt w p x) : (loadVar 26 ⟨p, 0, none⟩).run Try.prog w = .ok x.V w := run_loadVar_row w p 26 26 x.cells (0, 0) _ h Try.underlying26 rfl (sizeBt x)
theorem BtAt.setRow (h : BtAt w p x) (d : Bt) : BtAt (w.setRow p d.cells) p d := setRow_heap w p x.cells d.cells 26 (0, 0) h
end
/-- whether two are the same -/
def Bt.beq (x y : Bt) : Bool := x.tok == y.tok && x.last == y.last
theorem Bt.beq_iff {x y : Bt} : x.beq y = true ↔ x = y := by
  cases x; cases y; simp [Bt.beq]
theorem Bt.beq_self (x : Bt) : x.beq x = true := Bt.beq_iff.2 rfl
theorem Bt.beq_ne {x y : Bt} (h : x ≠ y) : x.beq y = false := by
  cases e : x.beq y
  · rfl
  · exact absurd (Bt.beq_iff.1 e) h
theorem eqI {a b : Int} (hab : a = b) : (a == b) = true := by simp [hab]
theorem part_int {t : TypeId} {k : IntKind} (ht : Try.prog.underlying t = some (.int k)) {xs : Array Value} {off : Nat} {v : Value} (h : xs[off]? = some v) (w : World) : (part t xs off).run Try.prog w = .ok v w := by
  have hagg : (isAgg t).run Try.prog w = .ok false w := by
    unfold isAgg
    rw [Sem.run_bind, run_underlying ht w]
    simp
  simp [part, Sem.run_bind, hagg, h]
/-- the numbers that a row of fields compares -/
def allEq (xs ys : Array Value) : List Field → Bool
  | [] => true
  | f :: fs => (match xs[f.offset]?, ys[f.offset]? with | some (.int _ a), some (.int _ b) => a == b | _, _ => false) && allEq xs ys fs
theorem eq_fields {xs ys : Array Value} (d : Nat) (w : World) : ∀ fs : List Field, (∀ f ∈ fs, f.type = 3 ∧ f.name ≠ "_" ∧ ∃ n m, xs[f.offset]? = some (.int .i64 n) ∧ ys[f.offset]? = some (.int .i64 m)) → (Op.eqFields (d + 1) xs ys fs).run Try.prog w = .ok (allEq xs ys fs) w
  | [], _ => by simp [Op.eqFields, allEq]
  | f :: fs, h => by
    have ih := eq_fields d w fs (fun g hg => h g (by simp [hg]))
    obtain ⟨ht, hb, n, m, hv, hu⟩ := h f (by simp)
    have u3 : Try.prog.underlying f.type = some (.int .i64) := by rw [ht]; exact Try.underlying3
    unfold Op.eqFields
    rw [if_pos hb, Sem.run_bind, part_int u3 hv w, Result.andThen_ok, Sem.run_bind, part_int u3 hu w, Result.andThen_ok, Sem.run_bind, run_equalIn_int w d f.type .i64 _ n m u3, Result.andThen_ok]
    simp only [allEq, hv, hu]
    cases n == m <;> simp [ih]
theorem fields_small : (Try.prog.fieldsOf 26).toList.all (fun f => f.type == 3 && (f.name != "_") && decide (f.offset < 2)) = true := by kernel_rfl
theorem fields_offs : (Try.prog.fieldsOf 26).toList.map (·.offset) = [0, 1] := by kernel_rfl
theorem Bt.int (x : Bt) {k : Nat} (h : k < 2) : ∃ n, x.cells[k]? = some (.int .i64 n) := by
  match k, h with
  | 0, _ => exact ⟨_, rfl⟩
  | 1, _ => exact ⟨_, rfl⟩
  | n + 2, h => exact absurd h (by omega)
def allEqO (xs ys : Array Value) : List Nat → Bool
  | [] => true
  | o :: os => (match xs[o]?, ys[o]? with | some (.int _ a), some (.int _ b) => a == b | _, _ => false) && allEqO xs ys os
theorem allEq_offs (xs ys : Array Value) : ∀ fs : List Field, allEq xs ys fs = allEqO xs ys (fs.map (·.offset))
  | [] => rfl
  | f :: fs => by simp only [allEq, List.map_cons, allEqO]; rw [allEq_offs xs ys fs]
set_option maxRecDepth 100000 in
theorem eqBt (x y : Bt) (w : World) : (Op.equalIn 10000 26 x.V y.V).run Try.prog w = .ok (x.beq y) w := by
  rw [run_equalIn_struct w 9999 26 x.cells y.cells (by rw [Try.underlying26]; congr 1) (by kernel_rfl)]
  rw [eq_fields 9998 w _ fun f hf => ?_]
  · rw [allEq_offs, fields_offs]
    have : allEqO x.cells y.cells [0, 1] = x.beq y := by
      simp [allEqO, Bt.cells, Bt.beq]
    rw [this]
  · have := List.all_eq_true.1 fields_small f hf
    simp at this
    obtain ⟨n, hn⟩ := x.int this.2
    obtain ⟨m, hm⟩ := y.int this.2
    exact ⟨this.1.1, this.1.2, n, m, hn, hm⟩
section
variable {ρ : Operand → Value} {w : World} {d : Option Tmp} {t t2 : TypeId} {pos : String} {af : Array Edge} {gd : Option (Nat × Bool)} {a b : Operand}
theorem run_eqlBt {x y : Bt} (e1 : ρ a = x.V) (e2 : ρ b = y.V) : (execOp ρ { dst := d, op := Op.binOp .eql 26 a b t2, type := t, pos := pos, after := af, guard := gd }).run Try.prog w = .ok (.value (.bool (x.beq y))) w := by
  unfold execOp
  simp only [e1, e2, Sem.run_bind, run_eqGuard_agg (P := Try.prog) w .eql 26 a b x.cells y.cells (by kernel_rfl), Result.andThen_ok, run_eql_struct, eqBt x y, Sem.run_pure]
theorem run_neqBt {x y : Bt} (e1 : ρ a = x.V) (e2 : ρ b = y.V) : (execOp ρ { dst := d, op := Op.binOp .neq 26 a b t2, type := t, pos := pos, after := af, guard := gd }).run Try.prog w = .ok (.value (.bool (!x.beq y))) w := by
  unfold execOp
  simp only [e1, e2, Sem.run_bind, run_eqGuard_agg (P := Try.prog) w .neq 26 a b x.cells y.cells (by kernel_rfl), Result.andThen_ok, run_neq_struct, eqBt x y, Sem.run_pure]
theorem run_load_bt {p : Nat} {x : Bt} (e : ρ a = ptr p 0) (h : BtAt w p x) : (execOp ρ { dst := d, op := Op.load 26 a, type := t, pos := pos, after := af, guard := gd }).run Try.prog w = .ok (.value x.V) w := by
  unfold execOp
  simp only [e, Instr.loadAt, Instr.sureAddr, Sem.run_bind, Sem.run_pure, Result.andThen_ok, BtAt.load h]
end
/-- one operation whose run is known -/
theorem wpList_run {P : Program} {ops : Array Oper} {rest : List Oper} {o : Oper} {a : Act} {w w' : World} {Q : Exit → Act → World → Prop} (hgd : Region.wanted o (yielded ops a.tmps) = true) (v : Value)
    (hrun : (execOp a.eval o).run P w = .ok (.value v) w') (h : wpList P ops Q rest (a.put o.dst v) w') : wpList P ops Q (o :: rest) a w := by
  unfold wpList
  rw [if_pos hgd]
  refine .inl ?_
  unfold Oper.wp
  rw [hrun, Oper.upon_value]
  exact h
section
variable {ops : Array Oper} {rest : List Oper} {o : Oper} {a : Act} {w : World} {Q : Exit → Act → World → Prop}
/-- the load of a configuration, of a call: the operation's kind asked first -/
theorem wpList_load_cat (x : Tmp) (ho : o.op = .load 24 (.tmp x)) (hgd : Region.wanted o (yielded ops a.tmps) = true) {p : Nat} {c : Cfg} (e : a.eval (.tmp x) = ptr p 0) (h : CAt w p c)
    (k : wpList Try.prog ops Q rest (a.put o.dst c.V) w) : wpList Try.prog ops Q (o :: rest) a w :=
  wpList_load_rowG hgd 24 (.tmp x) ho p e 24 c.cells (0, 0) _ h Try.underlying24 rfl (size24 c) k
theorem wpList_load_bt (x : Tmp) (ho : o.op = .load 26 (.tmp x)) (hgd : Region.wanted o (yielded ops a.tmps) = true) {p : Nat} {c : Bt} (e : a.eval (.tmp x) = ptr p 0) (h : BtAt w p c)
    (k : wpList Try.prog ops Q rest (a.put o.dst c.V) w) : wpList Try.prog ops Q (o :: rest) a w :=
  wpList_load_rowG hgd 26 (.tmp x) ho p e 26 c.cells (0, 0) _ h Try.underlying26 rfl (sizeBt c) k
theorem wpList_eql_bt (x y : Tmp) (t2 : TypeId) (ho : o.op = .binOp .eql 26 (.tmp x) (.tmp y) t2) (hgd : Region.wanted o (yielded ops a.tmps) = true) {c d : Bt} (e1 : a.eval (.tmp x) = c.V) (e2 : a.eval (.tmp y) = d.V) {b : Bool} (hb : c.beq d = b)
    (k : wpList Try.prog ops Q rest (a.put o.dst (.bool b)) w) : wpList Try.prog ops Q (o :: rest) a w := by
  obtain ⟨d, op, t, pos, af, gd⟩ := o
  subst ho
  subst hb
  exact wpList_run hgd _ (run_eqlBt e1 e2) k
theorem wpList_neq_bt (x y : Tmp) (t2 : TypeId) (ho : o.op = .binOp .neq 26 (.tmp x) (.tmp y) t2) (hgd : Region.wanted o (yielded ops a.tmps) = true) {c d : Bt} (e1 : a.eval (.tmp x) = c.V) (e2 : a.eval (.tmp y) = d.V) {b : Bool} (hb : (!c.beq d) = b)
    (k : wpList Try.prog ops Q rest (a.put o.dst (.bool b)) w) : wpList Try.prog ops Q (o :: rest) a w := by
  obtain ⟨d, op, t, pos, af, gd⟩ := o
  subst ho
  subst hb
  exact wpList_run hgd _ (run_neqBt e1 e2) k
theorem wpList_store_bt (x y : Tmp) (ho : o.op = .store 26 (.tmp x) (.tmp y)) (hgd : o.guard = none) {q : Nat} {c z : Bt} (e1 : a.eval (.tmp x) = ptr q 0) (e2 : a.eval (.tmp y) = c.V) (hq : BtAt w q z)
    (k : wpList Try.prog ops Q rest (a.put o.dst undef) (w.setRow q c.cells)) : wpList Try.prog ops Q (o :: rest) a w :=
  wpList_store_row hgd 26 (.tmp x) (.tmp y) ho q c.cells e1 e2 26 z.cells hq (sizeBt c) (by rw [z.size, c.size]) c.one k
end
/-- results: a call that lies in a cell, and a number -/
theorem results_bt {fn : Func} {p q : Tmp} (h : fn.results = #[.cell p 26, .tmp q]) {tmps : Array Value} {w : World} {g : Nat} {x : Bt} {v : Value} (hp : tmps.getD p undef = ptr g 0) (hq : tmps.getD q undef = v) (hg : BtAt w g x) :
    (results fn tmps).run Try.prog w = .ok (.tuple #[x.V, v]) w := by
  rw [Array.getD_eq_getD_getElem?] at hp hq
  simp [results, h, hp, hq, asAddr, BtAt.load hg]
/-- what stands in new blocks -/
theorem At.keep {w w' : World} {g : Nat} {t : TypeId} {cs : Array Value} (h : At w g t cs) (hb : Below w.heap.size w w') : At w' g t cs := h.below hb h.lt
theorem new1 (w : World) (c : Array Value) (t : TypeId) : Below w.heap.size w (w.alloc (.cells c t)) ∧ At (w.alloc (.cells c t)) w.heap.size t c := ⟨below_new w _, At.new w t c⟩
theorem new2 (w : World) (c1 c2 : Array Value) (t1 t2 : TypeId) : Below w.heap.size w ((w.alloc (.cells c1 t1)).alloc (.cells c2 t2)) ∧ At ((w.alloc (.cells c1 t1)).alloc (.cells c2 t2)) w.heap.size t1 c1 ∧ At ((w.alloc (.cells c1 t1)).alloc (.cells c2 t2)) (w.heap.size + 1) t2 c2 := by
  have e : (w.alloc (.cells c1 t1)).heap.size = w.heap.size + 1 := by simp
  obtain ⟨b2, h2⟩ := new1 (w.alloc (.cells c1 t1)) c2 t2
  obtain ⟨b1, h1⟩ := new1 w c1 t1
  have := h1.keep b2
  rw [e] at h2 b2
  exact ⟨b1.trans (b2.mono (by omega)), this, h2⟩
theorem new3 (w : World) (c1 c2 c3 : Array Value) (t1 t2 t3 : TypeId) : Below w.heap.size w (((w.alloc (.cells c1 t1)).alloc (.cells c2 t2)).alloc (.cells c3 t3)) ∧ At (((w.alloc (.cells c1 t1)).alloc (.cells c2 t2)).alloc (.cells c3 t3)) w.heap.size t1 c1 ∧ At (((w.alloc (.cells c1 t1)).alloc (.cells c2 t2)).alloc (.cells c3 t3)) (w.heap.size + 1) t2 c2 ∧ At (((w.alloc (.cells c1 t1)).alloc (.cells c2 t2)).alloc (.cells c3 t3)) (w.heap.size + 1 + 1) t3 c3 := by
  have e : ((w.alloc (.cells c1 t1)).alloc (.cells c2 t2)).heap.size = w.heap.size + 1 + 1 := by simp
  obtain ⟨b3, h3⟩ := new1 ((w.alloc (.cells c1 t1)).alloc (.cells c2 t2)) c3 t3
  obtain ⟨b1, h1, h2⟩ := new2 w c1 c2 t1 t2
  have k1 := h1.keep b3
  have k2 := h2.keep b3
  rw [e] at h3 b3
  exact ⟨b1.trans (b3.mono (by omega)), k1, k2, h3⟩
end Go.Proofs.Ytepfgheliddpmaa
