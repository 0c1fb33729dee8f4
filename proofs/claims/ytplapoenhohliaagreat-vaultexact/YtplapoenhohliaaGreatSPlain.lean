import Derived.Test.YtplapoenhohliaaGreatRef
import Derived.Laws.StructEq
import Derived.ChangeKeysEq
import Derived.Deep.CutRange
namespace Go.Proofs.YtplapoenhohliaaGreat
open Go.RowKit Go.Lib
set_option linter.unusedVariables false
set_option linter.unusedSimpArgs false
structure K where
 id : Int
 kind : Int
 frm : Int
 dto : Int
 car : Int
 st : Int
 own : Int
 born : Int
def K.cells (x : K) : Array Value := #[.int .i64 x.id, .int .i64 x.kind, .int .i64 x.frm, .int .i64 x.dto, .int .i64 x.car, .int .i64 x.st, .int .i64 x.own, .int .i64 x.born]
abbrev K.V (x : K) : Value := .agg x.cells
def zk : K := ⟨0, 0, 0, 0, 0, 0, 0, 0⟩
theorem K.size (x : K) : x.cells.size = 8 := rfl
theorem size26 (x : K) : (Tryz.prog.info? 46).map (·.size) = some x.cells.size := by rw [x.size]; kernel_rfl
theorem K.one (x : K) : x.cells.all (·.oneCell') = true := by simp [K.cells, Value.oneCell']
abbrev KAt (w : World) (p : Nat) (x : K) : Prop := At w p 46 x.cells
section
variable {w w' : World} {p : Nat} {x : K}
theorem KAt.get0 (h : KAt w p x) : w.cell? ⟨p, 0, none⟩ = some (.int .i64 x.id) := by rw [At.cell h]; rfl
theorem KAt.get1 (h : KAt w p x) : w.cell? ⟨p, 1, none⟩ = some (.int .i64 x.kind) := by rw [At.cell h]; rfl
theorem KAt.get2 (h : KAt w p x) : w.cell? ⟨p, 2, none⟩ = some (.int .i64 x.frm) := by rw [At.cell h]; rfl
theorem KAt.get3 (h : KAt w p x) : w.cell? ⟨p, 3, none⟩ = some (.int .i64 x.dto) := by rw [At.cell h]; rfl
theorem KAt.get4 (h : KAt w p x) : w.cell? ⟨p, 4, none⟩ = some (.int .i64 x.car) := by rw [At.cell h]; rfl
theorem KAt.get5 (h : KAt w p x) : w.cell? ⟨p, 5, none⟩ = some (.int .i64 x.st) := by rw [At.cell h]; rfl
theorem KAt.get6 (h : KAt w p x) : w.cell? ⟨p, 6, none⟩ = some (.int .i64 x.own) := by rw [At.cell h]; rfl
theorem KAt.get7 (h : KAt w p x) : w.cell? ⟨p, 7, none⟩ = some (.int .i64 x.born) := by rw [At.cell h]; rfl
theorem KAt.step (h : KAt w p x) (hb : Below w.heap.size w w') : KAt w' p x := At.below h hb (At.lt h)
theorem KAt.new (w : World) (x : K) : KAt (w.alloc (.cells x.cells 46)) w.heap.size x := At.new w 46 _
theorem KAt.load (h : KAt w p x) : (loadVar 46 ⟨p, 0, none⟩).run Tryz.prog w = .ok x.V w := run_loadVar_row w p 46 46 x.cells (0, 0) _ h Tryz.underlying46 rfl (size26 x)
theorem KAt.setRow (h : KAt w p x) (d : K) : KAt (w.setRow p d.cells) p d := setRow_heap w p x.cells d.cells 46 (0, 0) h
theorem KAt.set2 (h : KAt w p x) (n : Int) : KAt (w.setCell ⟨p, 2, none⟩ (.int .i64 n)) p { x with frm := n } := At.set h 2 _
theorem KAt.set4 (h : KAt w p x) (n : Int) : KAt (w.setCell ⟨p, 4, none⟩ (.int .i64 n)) p { x with car := n } := At.set h 4 _
theorem KAt.set5 (h : KAt w p x) (n : Int) : KAt (w.setCell ⟨p, 5, none⟩ (.int .i64 n)) p { x with st := n } := At.set h 5 _
theorem KAt.set0 (h : KAt w p x) (n : Int) : KAt (w.setCell ⟨p, 0, none⟩ (.int .i64 n)) p { x with id := n } := At.set h 0 _
theorem KAt.set6 (h : KAt w p x) (n : Int) : KAt (w.setCell ⟨p, 6, none⟩ (.int .i64 n)) p { x with own := n } := At.set h 6 _
theorem KAt.set7 (h : KAt w p x) (n : Int) : KAt (w.setCell ⟨p, 7, none⟩ (.int .i64 n)) p { x with born := n } := At.set h 7 _
end
def K.beq (x y : K) : Bool := x.id == y.id && (x.kind == y.kind && (x.frm == y.frm && (x.dto == y.dto && (x.car == y.car && (x.st == y.st && (x.own == y.own && x.born == y.born))))))
theorem K.beq_iff {x y : K} : x.beq y = true ↔ x = y := by
 cases x; cases y; simp [K.beq]
theorem K.beq_self (x : K) : x.beq x = true := K.beq_iff.2 rfl
theorem K.beq_ne {x y : K} (h : x ≠ y) : x.beq y = false := by
 cases e : x.beq y
 ·rfl
 ·exact absurd (K.beq_iff.1 e) h
theorem part_int {t : TypeId} {k : IntKind} (ht : Tryz.prog.underlying t = some (.int k)) {xs : Array Value} {off : Nat} {v : Value} (h : xs[off]? = some v) (w : World) : (part t xs off).run Tryz.prog w = .ok v w := by
 have hagg : (isAgg t).run Tryz.prog w = .ok false w := by
  unfold isAgg
  rw [Sem.run_bind, run_underlying ht w]
  simp
 simp [part, Sem.run_bind, hagg, h]
def allEq (xs ys : Array Value) : List Field → Bool
 | [] => true
 | f :: fs => (match xs[f.offset]?, ys[f.offset]? with | some (.int _ a), some (.int _ b) => a == b | _, _ => false) && allEq xs ys fs
theorem eq_fields {xs ys : Array Value} (d : Nat) (w : World) : ∀ fs : List Field, (∀ f ∈ fs, f.type = 3 ∧ f.name ≠ "_" ∧ ∃ n m, xs[f.offset]? = some (.int .i64 n) ∧ ys[f.offset]? = some (.int .i64 m)) → (Op.eqFields (d + 1) xs ys fs).run Tryz.prog w = .ok (allEq xs ys fs) w
 | [], _ => by simp [Op.eqFields, allEq]
 | f :: fs, h => by
  have ih := eq_fields d w fs (fun g hg => h g (by simp [hg]))
  obtain ⟨ht, hb, n, m, hv, hu⟩ := h f (by simp)
  have u3 : Tryz.prog.underlying f.type = some (.int .i64) := by rw [ht]; exact Tryz.underlying3
  unfold Op.eqFields
  rw [if_pos hb, Sem.run_bind, part_int u3 hv w, Result.andThen_ok, Sem.run_bind, part_int u3 hu w, Result.andThen_ok, Sem.run_bind, run_equalIn_int w d f.type .i64 _ n m u3, Result.andThen_ok]
  simp only [allEq, hv, hu]
  cases n == m <;> simp [ih]
theorem fields_small : (Tryz.prog.fieldsOf 46).toList.all (fun f => f.type == 3 && (f.name != "_") && decide (f.offset < 8)) = true := by kernel_rfl
theorem fields_offs : (Tryz.prog.fieldsOf 46).toList.map (·.offset) = [0, 1, 2, 3, 4, 5, 6, 7] := by kernel_rfl
theorem K.int (x : K) {k : Nat} (h : k < 8) : ∃ n, x.cells[k]? = some (.int .i64 n) := by
 match k, h with
 | 0, _ => exact ⟨_, rfl⟩
 | 1, _ => exact ⟨_, rfl⟩
 | 2, _ => exact ⟨_, rfl⟩
 | 3, _ => exact ⟨_, rfl⟩
 | 4, _ => exact ⟨_, rfl⟩
 | 5, _ => exact ⟨_, rfl⟩
 | 6, _ => exact ⟨_, rfl⟩
 | 7, _ => exact ⟨_, rfl⟩
 | n + 8, h => exact absurd h (by omega)
def allEqO (xs ys : Array Value) : List Nat → Bool
 | [] => true
 | o :: os => (match xs[o]?, ys[o]? with | some (.int _ a), some (.int _ b) => a == b | _, _ => false) && allEqO xs ys os
theorem allEq_offs (xs ys : Array Value) : ∀ fs : List Field, allEq xs ys fs = allEqO xs ys (fs.map (·.offset))
 | [] => rfl
 | f :: fs => by simp only [allEq, List.map_cons, allEqO]; rw [allEq_offs xs ys fs]
set_option maxRecDepth 100000 in
theorem eq26 (x y : K) (w : World) : (Op.equalIn 10000 46 x.V y.V).run Tryz.prog w = .ok (x.beq y) w := by
 rw [run_equalIn_struct w 9999 46 x.cells y.cells (by rw [Tryz.underlying46]; congr 1) (by kernel_rfl)]
 rw [eq_fields 9998 w _ fun f hf => ?_]
 ·rw [allEq_offs, fields_offs]
  have : allEqO x.cells y.cells [0, 1, 2, 3, 4, 5, 6, 7] = x.beq y := by
   simp [allEqO, K.cells, K.beq]
  rw [this]
 ·have := List.all_eq_true.1 fields_small f hf
  simp at this
  obtain ⟨n, hn⟩ := x.int this.2
  obtain ⟨m, hm⟩ := y.int this.2
  exact ⟨this.1.1, this.1.2, n, m, hn, hm⟩
section
variable {ρ : Operand → Value} {w : World} {d : Option Tmp} {t t2 : TypeId} {pos : String} {af : Array Edge} {gd : Option (Nat × Bool)} {a b : Operand}
theorem run_eql26 {x y : K} (e1 : ρ a = x.V) (e2 : ρ b = y.V) : (execOp ρ { dst := d, op := Op.binOp .eql 46 a b t2, type := t, pos := pos, after := af, guard := gd }).run Tryz.prog w = .ok (.value (.bool (x.beq y))) w := by
 unfold execOp
 simp only [e1, e2, Sem.run_bind, run_eqGuard_agg (P := Tryz.prog) w .eql 46 a b x.cells y.cells (by kernel_rfl), Result.andThen_ok, run_eql_struct, eq26 x y, Sem.run_pure]
theorem run_neq26 {x y : K} (e1 : ρ a = x.V) (e2 : ρ b = y.V) : (execOp ρ { dst := d, op := Op.binOp .neq 46 a b t2, type := t, pos := pos, after := af, guard := gd }).run Tryz.prog w = .ok (.value (.bool (!x.beq y))) w := by
 unfold execOp
 simp only [e1, e2, Sem.run_bind, run_eqGuard_agg (P := Tryz.prog) w .neq 46 a b x.cells y.cells (by kernel_rfl), Result.andThen_ok, run_neq_struct, eq26 x y, Sem.run_pure]
theorem run_load_k {p : Nat} {x : K} (e : ρ a = ptr p 0) (h : KAt w p x) : (execOp ρ { dst := d, op := Op.load 46 a, type := t, pos := pos, after := af, guard := gd }).run Tryz.prog w = .ok (.value x.V) w := by
 unfold execOp
 simp only [e, Instr.loadAt, Instr.sureAddr, Sem.run_bind, Sem.run_pure, Result.andThen_ok, KAt.load h]
end
theorem wpList_run {P : Program} {ops : Array Oper} {rest : List Oper} {o : Oper} {a : Act} {w w' : World} {Q : Exit → Act → World → Prop} (hgd : Region.wanted o (yielded ops a.tmps) = true) (v : Value)
  (hrun : (execOp a.eval o).run P w = .ok (.value v) w') (h : wpList P ops Q rest (a.put o.dst v) w') : wpList P ops Q (o :: rest) a w := by
 unfold wpList
 rw [if_pos hgd]
 refine .inl ?_
 unfold Oper.wp
 rw [hrun, Oper.upon_value]
 exact h
section
variable {ops : Array Oper} {rest : List Oper} {o : Oper} {a : Act} {w : World} {Q : Exit → Act → World → Prop}
theorem wpList_load_cat (x : Tmp) (ho : o.op = .load 24 (.tmp x)) (hgd : Region.wanted o (yielded ops a.tmps) = true) {p : Nat} {c : Cfg} (e : a.eval (.tmp x) = ptr p 0) (h : CAt w p c)
  (k : wpList Tryz.prog ops Q rest (a.put o.dst c.V) w) : wpList Tryz.prog ops Q (o :: rest) a w :=
 wpList_load_rowG hgd 24 (.tmp x) ho p e 24 c.cells (0, 0) _ h Tryz.underlying24 rfl (size24 c) k
theorem wpList_load_kat (x : Tmp) (ho : o.op = .load 46 (.tmp x)) (hgd : Region.wanted o (yielded ops a.tmps) = true) {p : Nat} {c : K} (e : a.eval (.tmp x) = ptr p 0) (h : KAt w p c)
  (k : wpList Tryz.prog ops Q rest (a.put o.dst c.V) w) : wpList Tryz.prog ops Q (o :: rest) a w :=
 wpList_load_rowG hgd 46 (.tmp x) ho p e 46 c.cells (0, 0) _ h Tryz.underlying46 rfl (size26 c) k
theorem wpList_eql_kat (x y : Tmp) (t2 : TypeId) (ho : o.op = .binOp .eql 46 (.tmp x) (.tmp y) t2) (hgd : Region.wanted o (yielded ops a.tmps) = true) {c d : K} (e1 : a.eval (.tmp x) = c.V) (e2 : a.eval (.tmp y) = d.V) {b : Bool} (hb : c.beq d = b)
  (k : wpList Tryz.prog ops Q rest (a.put o.dst (.bool b)) w) : wpList Tryz.prog ops Q (o :: rest) a w := by
 obtain ⟨d, op, t, pos, af, gd⟩ := o
 subst ho
 subst hb
 exact wpList_run hgd _ (run_eql26 e1 e2) k
theorem wpList_store_kat (x y : Tmp) (ho : o.op = .store 46 (.tmp x) (.tmp y)) (hgd : o.guard = none) {q : Nat} {c z : K} (e1 : a.eval (.tmp x) = ptr q 0) (e2 : a.eval (.tmp y) = c.V) (hq : KAt w q z)
  (k : wpList Tryz.prog ops Q rest (a.put o.dst undef) (w.setRow q c.cells)) : wpList Tryz.prog ops Q (o :: rest) a w :=
 wpList_store_row hgd 46 (.tmp x) (.tmp y) ho q c.cells e1 e2 46 z.cells hq (size26 c) (by rw [z.size, c.size]) c.one k
end
theorem results_pair {fn : Func} {p q : Tmp} (h : fn.results = #[.cell p 46, .tmp q]) {tmps : Array Value} {w : World} {g : Nat} {x : K} {v : Value} (hp : tmps.getD p undef = ptr g 0) (hq : tmps.getD q undef = v) (hg : KAt w g x) :
  (results fn tmps).run Tryz.prog w = .ok (.tuple #[x.V, v]) w := by
 rw [Array.getD_eq_getD_getElem?] at hp hq
 simp [results, h, hp, hq, asAddr, KAt.load hg]
end Go.Proofs.YtplapoenhohliaaGreat
namespace Go.Proofs.YtplapoenhohliaaGreat.Sh
namespace Plain
abbrev KV := Int × K
instance : DecidableEq K := fun x y => if h : x.beq y = true then .isTrue (K.beq_iff.1 h) else .isFalse (fun e => h (K.beq_iff.2 e))
def lt (a b : Int) : Bool := decide (a < b)
theorem lt_irrefl (a : Int) : lt a a = false := by simp [lt]
theorem lt_trans {a b c : Int} (h : lt a b = true) (k : lt b c = true) : lt a c = true := by simp [lt] at h k ⊢; omega
theorem lt_conn {a b : Int} (h : lt a b = false) (k : lt b a = false) : a = b := by simp [lt] at h k; omega
theorem lt_asymm {a b : Int} (h : lt a b = true) : lt b a = false := by
 cases e : lt b a
 ·rfl
 ·have := lt_trans h e; rw [lt_irrefl] at this; cases this
theorem lt_ne {a b : Int} (h : lt a b = true) : a ≠ b := by rintro rfl; rw [lt_irrefl] at h; cases h
def Rise (l : List KV) : Prop := l.Pairwise (fun a b => lt a.1 b.1 = true)
def get (k : Int) : List KV → Option K
 | [] => none
 | x :: l => if x.1 = k then some x.2 else get k l
def put (k : Int) (v : K) : List KV → List KV
 | [] => [(k, v)]
 | x :: l => if lt x.1 k = true then x :: put k v l else if x.1 = k then (k, v) :: l else (k, v) :: x :: l
def del (k : Int) (l : List KV) : List KV := l.filter (fun x => decide (x.1 ≠ k))
theorem Rise.parts {A : List KV} {x : KV} {C : List KV} (h : Rise (A ++ x :: C)) : Rise A ∧ Rise C ∧ (∀ y ∈ A, lt y.1 x.1 = true) ∧ (∀ y ∈ C, lt x.1 y.1 = true) := by
 unfold Rise at h
 rw [List.pairwise_append, List.pairwise_cons] at h
 exact ⟨h.1, h.2.1.2, fun y hy => h.2.2 y hy x (List.mem_cons_self ..), h.2.1.1⟩
theorem Rise.cons {x : KV} {C : List KV} (h : Rise (x :: C)) : Rise C ∧ (∀ y ∈ C, lt x.1 y.1 = true) := by
 unfold Rise at h
 rw [List.pairwise_cons] at h
 exact ⟨h.2, h.1⟩
theorem Rise.cons_mk {x : KV} {C : List KV} (h : Rise C) (k : ∀ y ∈ C, lt x.1 y.1 = true) : Rise (x :: C) := List.pairwise_cons.2 ⟨k, h⟩
theorem Rise.nil : Rise [] := List.Pairwise.nil
theorem Rise.filter {l : List KV} (h : Rise l) (p : KV → Bool) : Rise (l.filter p) := List.Pairwise.filter p h
theorem get_mem {k : Int} {v : K} : ∀ {l : List KV}, get k l = some v → (k, v) ∈ l
 | [], h => by cases h
 | x :: l, h => by
  unfold get at h
  split at h
  ·next e => injection h with h; subst e; subst h; exact List.mem_cons_self ..
  ·exact List.mem_cons_of_mem _ (get_mem h)
theorem get_none {k : Int} : ∀ {l : List KV}, (∀ y ∈ l, y.1 ≠ k) → get k l = none
 | [], _ => rfl
 | x :: l, h => by
  unfold get
  rw [if_neg (h x (List.mem_cons_self ..)), get_none (fun y hy => h y (List.mem_cons_of_mem _ hy))]
theorem get_none_iff {k : Int} : ∀ {l : List KV}, get k l = none → ∀ y ∈ l, y.1 ≠ k
 | [], _ => by simp
 | x :: l, h => by
  unfold get at h
  split at h
  ·cases h
  ·next e => intro y hy; exact (List.mem_cons.1 hy).elim (fun e' => e' ▸ e) (fun hy => get_none_iff h y hy)
theorem get_app {k : Int} : ∀ {A C : List KV}, (∀ y ∈ A, y.1 ≠ k) → get k (A ++ C) = get k C
 | [], _, _ => rfl
 | x :: A, C, h => by
  rw [List.cons_append]
  conv => lhs; unfold get
  rw [if_neg (h x (List.mem_cons_self ..)), get_app (fun y hy => h y (List.mem_cons_of_mem _ hy))]
theorem get_left {k : Int} {x : KV} {C : List KV} (hk : lt k x.1 = true) (hC : ∀ y ∈ C, lt x.1 y.1 = true) : ∀ A : List KV, get k (A ++ x :: C) = get k A
 | [] => by
  rw [List.nil_append]
  exact get_none (fun y hy => by
   rcases List.mem_cons.1 hy with rfl | hy
   ·exact (lt_ne hk).symm
   ·exact (lt_ne (lt_trans hk (hC y hy))).symm)
 | y :: A => by
  rw [List.cons_append]
  conv => lhs; unfold get
  conv => rhs; unfold get
  rw [get_left hk hC A]
theorem get_right {k : Int} {x : KV} {A C : List KV} (hk : lt x.1 k = true) (hA : ∀ y ∈ A, lt y.1 x.1 = true) : get k (A ++ x :: C) = get k C := by
 rw [get_app (fun y hy => lt_ne (lt_trans (hA y hy) hk))]
 conv => lhs; unfold get
 rw [if_neg (lt_ne hk)]
theorem get_mid {k : Int} {x : KV} {A C : List KV} (hk : x.1 = k) (hA : ∀ y ∈ A, lt y.1 x.1 = true) : get k (A ++ x :: C) = some x.2 := by
 rw [get_app (fun y hy => by rw [← hk]; exact lt_ne (hA y hy))]
 conv => lhs; unfold get
 rw [if_pos hk]
theorem put_left {k : Int} {v : K} {x : KV} {C : List KV} (hk : lt k x.1 = true) : ∀ A : List KV, put k v (A ++ x :: C) = put k v A ++ x :: C
 | [] => by
  rw [List.nil_append]
  conv => lhs; unfold put
  rw [if_neg (by rw [lt_asymm hk]; decide), if_neg (lt_ne hk).symm]
  rfl
 | y :: A => by
  rw [List.cons_append]
  conv => lhs; unfold put
  conv => rhs; unfold put
  rw [put_left hk A]
  split
  ·rfl
  ·split <;> rfl
theorem put_over {k : Int} {v : K} {C : List KV} : ∀ {A : List KV}, (∀ y ∈ A, lt y.1 k = true) → put k v (A ++ C) = A ++ put k v C
 | [], _ => rfl
 | y :: A, h => by
  rw [List.cons_append]
  conv => lhs; unfold put
  rw [if_pos (h y (List.mem_cons_self ..)), put_over (fun y hy => h y (List.mem_cons_of_mem _ hy))]
  rfl
theorem put_right {k : Int} {v : K} {x : KV} {A C : List KV} (hk : lt x.1 k = true) (hA : ∀ y ∈ A, lt y.1 x.1 = true) : put k v (A ++ x :: C) = A ++ x :: put k v C := by
 rw [put_over (fun y hy => lt_trans (hA y hy) hk)]
 conv => lhs; arg 2; unfold put
 rw [if_pos hk]
theorem put_mid {k : Int} {v : K} {x : KV} {A C : List KV} (hk : x.1 = k) (hA : ∀ y ∈ A, lt y.1 x.1 = true) : put k v (A ++ x :: C) = A ++ (k, v) :: C := by
 rw [put_over (fun y hy => by rw [← hk]; exact hA y hy)]
 conv => lhs; arg 2; unfold put
 rw [if_neg (by rw [hk, lt_irrefl]; decide), if_pos hk]
theorem del_none {k : Int} {l : List KV} (h : ∀ y ∈ l, y.1 ≠ k) : del k l = l := List.filter_eq_self.2 (fun y hy => decide_eq_true (h y hy))
theorem del_app (k : Int) (A C : List KV) : del k (A ++ C) = del k A ++ del k C := List.filter_append ..
theorem del_left {k : Int} {x : KV} {A C : List KV} (hk : lt k x.1 = true) (hC : ∀ y ∈ C, lt x.1 y.1 = true) : del k (A ++ x :: C) = del k A ++ x :: C := by
 rw [del_app, del_none (l := x :: C) (fun y hy => by
  rcases List.mem_cons.1 hy with rfl | hy
  ·exact (lt_ne hk).symm
  ·exact (lt_ne (lt_trans hk (hC y hy))).symm)]
theorem del_right {k : Int} {x : KV} {A C : List KV} (hk : lt x.1 k = true) (hA : ∀ y ∈ A, lt y.1 x.1 = true) : del k (A ++ x :: C) = A ++ x :: del k C := by
 rw [del_app, del_none (l := A) (fun y hy => lt_ne (lt_trans (hA y hy) hk))]
 congr 1
 unfold del
 rw [List.filter_cons_of_pos (by simpa using lt_ne hk)]
theorem del_mid {k : Int} {x : KV} {A C : List KV} (hk : x.1 = k) (hA : ∀ y ∈ A, lt y.1 x.1 = true) (hC : ∀ y ∈ C, lt x.1 y.1 = true) : del k (A ++ x :: C) = A ++ C := by
 rw [del_app, del_none (l := A) (fun y hy => by rw [← hk]; exact lt_ne (hA y hy))]
 congr 1
 unfold del
 rw [List.filter_cons_of_neg (by simpa using hk)]
 exact del_none (fun y hy => by rw [← hk]; exact (lt_ne (hC y hy)).symm)
theorem mem_put {k : Int} {v : K} {y : KV} : ∀ {l : List KV}, y ∈ put k v l → y = (k, v) ∨ y ∈ l
 | [], h => by simp [put] at h; exact .inl h
 | x :: l, h => by
  unfold put at h
  split at h
  ·rcases List.mem_cons.1 h with rfl | h
   ·exact .inr (List.mem_cons_self ..)
   ·rcases mem_put h with h | h
    ·exact .inl h
    ·exact .inr (List.mem_cons_of_mem _ h)
  ·split at h
   ·rcases List.mem_cons.1 h with h | h
    ·exact .inl h
    ·exact .inr (List.mem_cons_of_mem _ h)
   ·rcases List.mem_cons.1 h with h | h
    ·exact .inl h
    ·exact .inr h
theorem Rise.put {k : Int} {v : K} : ∀ {l : List KV}, Rise l → Rise (put k v l)
 | [], _ => by unfold Plain.put; exact List.pairwise_singleton ..
 | x :: l, h => by
  obtain ⟨h1, h2⟩ := h.cons
  unfold Plain.put
  split
  ·next e =>
   refine Rise.cons_mk (Rise.put h1) (fun y hy => ?_)
   rcases mem_put hy with rfl | hy
   ·exact e
   ·exact h2 y hy
  ·next e =>
   split
   ·next e' => exact Rise.cons_mk h1 (fun y hy => by rw [← e']; exact h2 y hy)
   ·next e' =>
    have hk : lt k x.1 = true := by
     cases hh : lt k x.1
     ·exact absurd (lt_conn (by simpa using e) hh) e'
     ·rfl
    refine Rise.cons_mk h (fun y hy => ?_)
    rcases List.mem_cons.1 hy with rfl | hy
    ·exact hk
    ·exact lt_trans hk (h2 y hy)
theorem Rise.del {k : Int} {l : List KV} (h : Rise l) : Rise (del k l) := h.filter _
theorem get_put {k j : Int} {v : K} : ∀ {l : List KV}, Rise l → get j (put k v l) = if j = k then some v else get j l
 | [], _ => by
  unfold put get get
  by_cases e : j = k
  ·subst e; simp
  ·rw [if_neg (Ne.symm e), if_neg e]
 | x :: l, h => by
  obtain ⟨h1, h2⟩ := h.cons
  unfold put
  split
  ·next e =>
   conv => lhs; unfold get
   rw [get_put h1]
   conv => rhs; arg 3; unfold get
   by_cases e1 : x.1 = j
   ·subst e1; rw [if_pos rfl, if_neg (lt_ne e), if_pos rfl]
   ·rw [if_neg e1, if_neg e1]
  ·split
   ·next e' =>
    conv => lhs; unfold get
    conv => rhs; arg 3; unfold get
    by_cases e1 : j = k
    ·subst e1; simp
    ·rw [if_neg (Ne.symm e1), if_neg e1, if_neg (by rw [e']; exact Ne.symm e1)]
   ·conv => lhs; unfold get
    by_cases e1 : j = k
    ·subst e1; simp
    ·rw [if_neg (Ne.symm e1), if_neg e1]
theorem get_del {k j : Int} : ∀ {l : List KV}, get j (del k l) = if j = k then none else get j l
 | [] => by simp [del, get]
 | x :: l => by
  have ih := get_del (k := k) (j := j) (l := l)
  unfold del at ih ⊢
  by_cases e : x.1 = k
  ·rw [List.filter_cons_of_neg (by simpa using e), ih]
   conv => rhs; arg 3; unfold get
   by_cases e1 : j = k
   ·rw [if_pos e1, if_pos e1]
   ·rw [if_neg e1, if_neg e1, if_neg (by rw [e]; exact Ne.symm e1)]
  ·rw [List.filter_cons_of_pos (by simpa using e)]
   conv => lhs; unfold get
   conv => rhs; arg 3; unfold get
   rw [ih]
   by_cases e1 : x.1 = j
   ·rw [if_pos e1, if_pos e1, if_neg (by rw [← e1]; exact e)]
   ·rw [if_neg e1, if_neg e1]
theorem put_length {k : Int} {v : K} : ∀ {l : List KV}, Rise l → (put k v l).length = if (get k l).isSome = true then l.length else l.length + 1
 | [], _ => rfl
 | x :: l, h => by
  obtain ⟨h1, h2⟩ := h.cons
  unfold put get
  split
  ·next e =>
   rw [if_neg (lt_ne e), List.length_cons, put_length h1, List.length_cons]
   split <;> rfl
  ·next e =>
   split
   ·next e' => rfl
   ·next e' =>
    have hk : lt k x.1 = true := by
     cases hh : lt k x.1
     ·exact absurd (lt_conn (by simpa using e) hh) e'
     ·rfl
    rw [get_none (fun y hy => (lt_ne (lt_trans hk (h2 y hy))).symm)]
    rfl
theorem del_length {k : Int} : ∀ {l : List KV}, Rise l → (del k l).length = if (get k l).isSome = true then l.length - 1 else l.length
 | [], _ => rfl
 | x :: l, h => by
  obtain ⟨h1, h2⟩ := h.cons
  unfold get
  by_cases e : x.1 = k
  ·rw [if_pos e]
   have : del k (x :: l) = l := del_mid (A := []) e (by simp) h2
   rw [this]; rfl
  ·rw [if_neg e]
   have e2 : del k (x :: l) = x :: del k l := by unfold del; rw [List.filter_cons_of_pos (by simpa using e)]
   rw [e2, List.length_cons, del_length h1, List.length_cons]
   split
   ·next hh =>
    cases l
    ·simp [get] at hh
    ·simp
   ·rfl
inductive T where
 | nil : T
 | node (l : T) (p : Nat) (x : KV) (r : T) : T
namespace T
def its : T → List (Nat × KV)
 | nil => []
 | node l p x r => l.its ++ (p, x) :: r.its
def kvs (t : T) : List KV := t.its.map (·.2)
def high : T → Nat
 | nil => 0
 | node l _ _ r => 1 + max l.high r.high
theorem kvs_nil : kvs nil = [] := rfl
theorem kvs_node (l : T) (p : Nat) (x : KV) (r : T) : (node l p x r).kvs = l.kvs ++ x :: r.kvs := by simp [kvs, its]
theorem high_le : ∀ t : T, t.high ≤ t.kvs.length
 | nil => Nat.le_refl _
 | node l p x r => by
  have := high_le l; have := high_le r
  rw [kvs_node]
  simp [high]
  omega
theorem kvs_length (t : T) : t.kvs.length = t.its.length := List.length_map ..
end T
end Plain
end Go.Proofs.YtplapoenhohliaaGreat.Sh
