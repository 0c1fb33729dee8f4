/- What is compared with itself is the same: configurations, and rows of seventeen numbers. One operation whose run is known. -/
import Derived.Test.YthnjghkloodblaaArgs
import Derived.Laws.StructEq
import Derived.ChangeKeysEq
namespace Go.Proofs.Ythnjghkloodblaa
open Go.RowKit Go.Lib
set_option linter.unusedVariables false
set_option linter.unusedSimpArgs false

theorem part_int {t : TypeId} {k : IntKind} (ht : Try.prog.underlying t = some (.int k)) {xs : Array Value} {off : Nat} {v : Value} (h : xs[off]? = some v) (w : World) : (part t xs off).run Try.prog w = .ok v w := by
  have hagg : (isAgg t).run Try.prog w = .ok false w := by
    unfold isAgg
    rw [Sem.run_bind, run_underlying ht w]
    simp
  simp [part, Sem.run_bind, hagg, h]
theorem eq_fields {xs : Array Value} (d : Nat) (w : World) : ∀ fs : List Field, (∀ f ∈ fs, (f.type = 3 ∨ f.type = 22) ∧ ∃ k n, xs[f.offset]? = some (.int k n)) → (Op.eqFields (d + 1) xs xs fs).run Try.prog w = .ok true w
  | [], _ => by simp [Op.eqFields]
  | f :: fs, h => by
    have ih := eq_fields d w fs (fun g hg => h g (by simp [hg]))
    obtain ⟨ht, k, n, hv⟩ := h f (by simp)
    obtain ⟨k', hu⟩ : ∃ k', Try.prog.underlying f.type = some (.int k') := by
      rcases ht with e | e
      · exact ⟨_, by rw [e]; exact Try.underlying3⟩
      · exact ⟨_, by rw [e]; exact Try.underlying22⟩
    unfold Op.eqFields
    split
    · rw [Sem.run_bind, part_int hu hv w, Result.andThen_ok, Sem.run_bind, part_int hu hv w, Result.andThen_ok, Sem.run_bind, run_equalIn_int w d f.type k k' n n hu, Result.andThen_ok]
      simp [ih]
    · exact ih
theorem eq_items {xs : Array Value} (d : Nat) (w : World) : ∀ is : List Nat, (∀ i ∈ is, ∃ k n, xs[i * 1]? = some (.int k n)) → (Op.eqItems (d + 1) 3 1 xs xs is).run Try.prog w = .ok true w
  | [], _ => by simp [Op.eqItems]
  | i :: is, h => by
    have ih := eq_items d w is (fun j hj => h j (by simp [hj]))
    obtain ⟨k, n, hv⟩ := h i (by simp)
    unfold Op.eqItems
    rw [Sem.run_bind, part_int Try.underlying3 hv w, Result.andThen_ok, Sem.run_bind, part_int Try.underlying3 hv w, Result.andThen_ok, Sem.run_bind, run_equalIn_int w d 3 k _ n n Try.underlying3, Result.andThen_ok]
    simp [ih]
theorem fields_small : (Try.prog.fieldsOf 24).toList.all (fun f => (f.type == 3 || f.type == 22) && decide (f.offset < 18)) = true := by kernel_rfl
theorem cells_int (c : Cfg) {k : Nat} (h : k < 18) : ∃ q n, c.cells[k]? = some (.int q n) := by
  by_cases h1 : k < 17
  · exact ⟨_, _, c.at_ h1⟩
  · obtain rfl : k = 17 := by omega
    exact ⟨_, _, c.atS⟩
theorem eq24 (c : Cfg) (w : World) : (Op.equalIn 10000 24 c.V c.V).run Try.prog w = .ok true w := by
  rw [run_equalIn_struct w 9999 24 c.cells c.cells (by rw [Try.underlying24]; congr 1) (by kernel_rfl)]
  refine eq_fields 9998 w _ fun f hf => ?_
  have := List.all_eq_true.1 fields_small f hf
  simp at this
  exact ⟨this.1, cells_int c this.2⟩
theorem eq40 {l : List Int} (hl : l.length = 17) (w : World) : (Op.equalIn 10000 40 (.agg (ints l)) (.agg (ints l))).run Try.prog w = .ok true w := by
  obtain ⟨i, hi, h0, h1, h2⟩ := info_parts info3
  rw [run_equalIn_array w 9999 (ints l) (ints l) Try.underlying40 hi, show Try.prog.cellsOf 3 = 1 by kernel_rfl]
  refine eq_items 9998 w _ fun k hk => ?_
  rw [Nat.mul_one]
  exact ⟨_, _, ints_at l k (by rw [hl]; simpa using hk)⟩
section
variable {ρ : Operand → Value} {w : World} {d : Option Tmp} {t t2 : TypeId} {pos : String} {af : Array Edge} {gd : Option (Nat × Bool)} {x y : Operand}
theorem run_eql24 {c : Cfg} (e1 : ρ x = c.V) (e2 : ρ y = c.V) : (execOp ρ { dst := d, op := Op.binOp .eql 24 x y t2, type := t, pos := pos, after := af, guard := gd }).run Try.prog w = .ok (.value (.bool true)) w := by
  unfold execOp
  simp only [e1, e2, Sem.run_bind, run_eqGuard_agg (P := Try.prog) w .eql 24 x y c.cells c.cells (by kernel_rfl), Result.andThen_ok, run_eql_struct, eq24 c, Sem.run_pure]
theorem run_neq24 {c : Cfg} (e1 : ρ x = c.V) (e2 : ρ y = c.V) : (execOp ρ { dst := d, op := Op.binOp .neq 24 x y t2, type := t, pos := pos, after := af, guard := gd }).run Try.prog w = .ok (.value (.bool false)) w := by
  unfold execOp
  simp only [e1, e2, Sem.run_bind, run_eqGuard_agg (P := Try.prog) w .neq 24 x y c.cells c.cells (by kernel_rfl), Result.andThen_ok, run_neq_struct, eq24 c, Sem.run_pure, Bool.not_true]
theorem run_eql40 {l : List Int} (hl : l.length = 17) (e1 : ρ x = .agg (ints l)) (e2 : ρ y = .agg (ints l)) : (execOp ρ { dst := d, op := Op.binOp .eql 40 x y t2, type := t, pos := pos, after := af, guard := gd }).run Try.prog w = .ok (.value (.bool true)) w := by
  unfold execOp
  simp only [e1, e2, Sem.run_bind, run_eqGuard_agg (P := Try.prog) w .eql 40 x y (ints l) (ints l) (by kernel_rfl), Result.andThen_ok, run_eql_struct, eq40 hl, Sem.run_pure]
theorem run_load_ints {p : Nat} {l : List Int} (hl : l.length = 17) (e : ρ x = ptr p 0) (hg : IAt w p l) :
    (execOp ρ { dst := d, op := Op.load 40 x, type := t, pos := pos, after := af, guard := gd }).run Try.prog w = .ok (.value (.agg (ints l))) w := by
  unfold execOp
  simp only [e, Instr.loadAt, Instr.sureAddr, Sem.run_bind, Sem.run_pure, Result.andThen_ok, run_loadVar_row w p 40 40 (ints l) (0, 0) _ hg Try.underlying40 rfl (size40 hl)]
theorem run_alloc24 : (execOp ρ { dst := d, op := Op.alloc 24, type := t, pos := pos, after := af, guard := gd }).run Try.prog w = .ok (.value (ptr w.heap.size 0)) (w.alloc (.cells zc.cells 24)) := by
  simp [execOp, go_sem]
  rfl
theorem run_store_cfg {c z : Cfg} {q : Nat} (e1 : ρ x = ptr q 0) (e2 : ρ y = c.V) (hq : CAt w q z) : (execOp ρ { dst := d, op := Op.store 24 x y, type := t, pos := pos, after := af, guard := gd }).run Try.prog w = .ok .skip (w.setRow q c.cells) := by
  unfold execOp
  simp only [e1, e2, Instr.storeAt, Instr.sureAddr, Sem.run_bind, Sem.run_pure, Result.andThen_ok, run_storeVar_row w q 24 24 z.cells c.cells hq (size24 c) (by rw [z.size, c.size]) c.one]
end
/-- one operation whose run is known -/
theorem wpList_run {P : Program} {ops : Array Oper} {rest : List Oper} {o : Oper} {a : Act} {w w' : World} {Q : Exit → Act → World → Prop} (hgd : Region.wanted o (yielded ops a.tmps) = true) (v : Value)
    (hrun : (execOp a.eval o).run P w = .ok (.value v) w') (h : wpList P ops Q rest (a.put o.dst v) w') : wpList P ops Q (o :: rest) a w := by
  unfold wpList
  rw [if_pos hgd]
  refine .inl ?_
  unfold Oper.wp
  rw [hrun, Oper.upon_value]
  exact h
end Go.Proofs.Ythnjghkloodblaa
