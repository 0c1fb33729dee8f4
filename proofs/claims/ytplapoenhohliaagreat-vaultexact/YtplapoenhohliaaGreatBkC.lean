import Derived.Test.YtplapoenhohliaaGreatBkA
import Derived.Test.YtplapoenhohliaaGreatBkB
namespace Go.Proofs.YtplapoenhohliaaGreat
open Go.RowKit Go.Lib
set_option linter.unusedVariables false
set_option linter.unusedSimpArgs false
theorem eq_fields2 {xs ys : Array Value} (d : Nat) (w : World) : ∀ fs : List Field, (∀ f ∈ fs, f.name ≠ "_" ∧ (∃ k, Tryz.prog.underlying f.type = some (.int k)) ∧ ∃ k n m, xs[f.offset]? = some (.int k n) ∧ ys[f.offset]? = some (.int k m)) → (Op.eqFields (d + 1) xs ys fs).run Tryz.prog w = .ok (allEq xs ys fs) w
 | [], _ => by simp [Op.eqFields, allEq]
 | f :: fs, h => by
  have ih := eq_fields2 d w fs (fun g hg => h g (by simp [hg]))
  obtain ⟨hb, ⟨k0, hk⟩, k, n, m, hv, hu⟩ := h f (by simp)
  unfold Op.eqFields
  rw [if_pos hb, Sem.run_bind, part_int hk hv w, Result.andThen_ok, Sem.run_bind, part_int hk hu w, Result.andThen_ok, Sem.run_bind, run_equalIn_int w d f.type k _ n m hk, Result.andThen_ok]
  simp only [allEq, hv, hu]
  cases n == m <;> simp [ih]
theorem fields24 : (Tryz.prog.fieldsOf 24).toList.all (fun f => (f.type == 3 || f.type == 22) && (f.name != "_") && decide (f.offset < 18)) = true := by kernel_rfl
theorem offs24 : (Tryz.prog.fieldsOf 24).toList.map (·.offset) = List.range 18 := by kernel_rfl
def Cfg.beq (c d : Cfg) : Bool := allEqO c.cells d.cells (List.range 18)
theorem cells_int {c d : Cfg} {k : Nat} (h : k < 18) : ∃ q n m, c.cells[k]? = some (.int q n) ∧ d.cells[k]? = some (.int q m) := by
 by_cases h1 : k < 17
 ·exact ⟨_, _, _, c.at_ h1, d.at_ h1⟩
 ·obtain rfl : k = 17 := by omega
  exact ⟨_, _, _, c.atS, d.atS⟩
theorem allEqO_iff {xs ys : Array Value} : ∀ {os : List Nat}, allEqO xs ys os = true ↔ ∀ o ∈ os, (match xs[o]?, ys[o]? with | some (.int _ a), some (.int _ b) => a == b | _, _ => false) = true
 | [] => by simp [allEqO]
 | o :: os => by simp only [allEqO, Bool.and_eq_true, List.forall_mem_cons, allEqO_iff (os := os)]; exact Iff.rfl
theorem Cfg.beq_iff {c d : Cfg} : c.beq d = true ↔ c = d := by
 constructor
 ·intro h
  have h := allEqO_iff.1 h
  refine Cfg.eq_of (fun k hk => ?_) ?_
  ·have := h k (by rw [List.mem_range]; omega)
   rw [c.at_ hk, d.at_ hk] at this
   simpa using this
  ·have := h 17 (by rw [List.mem_range]; omega)
   rw [c.atS, d.atS] at this
   simpa using this
 ·rintro rfl
  refine allEqO_iff.2 fun o ho => ?_
  obtain ⟨q, n, m, h1, _⟩ := cells_int (c := c) (d := c) (List.mem_range.1 ho)
  rw [h1]; simp
theorem Cfg.beq_self (c : Cfg) : c.beq c = true := Cfg.beq_iff.2 rfl
theorem Cfg.beq_ne {c d : Cfg} (h : c ≠ d) : c.beq d = false := by
 cases e : c.beq d
 ·rfl
 ·exact absurd (Cfg.beq_iff.1 e) h
set_option maxRecDepth 100000 in
theorem eq24 (c d : Cfg) (w : World) : (Op.equalIn 10000 24 c.V d.V).run Tryz.prog w = .ok (c.beq d) w := by
 rw [run_equalIn_struct w 9999 24 c.cells d.cells (by rw [Tryz.underlying24]; congr 1) (by kernel_rfl)]
 rw [eq_fields2 9998 w _ fun f hf => ?_]
 ·rw [allEq_offs, offs24]; rfl
 ·have := List.all_eq_true.1 fields24 f hf
  simp at this
  obtain ⟨⟨ht, hb⟩, hl⟩ := this
  refine ⟨hb, ?_, cells_int hl⟩
  rcases ht with e | e
  ·exact ⟨_, by rw [e]; exact Tryz.underlying3⟩
  ·exact ⟨_, by rw [e]; exact Tryz.underlying22⟩
theorem part_k {xs : Array Value} {off : Nat} {x : K} (h : xs.extract off (off + 8) = x.cells) (w : World) : (part 46 xs off).run Tryz.prog w = .ok x.V w := by
 have hagg : (isAgg 46).run Tryz.prog w = .ok true w := by
  unfold isAgg
  rw [Sem.run_bind, run_underlying Tryz.underlying46 w]
  simp
 have hs : (Tryz.prog.info? 46).map (·.size) = some 8 := by kernel_rfl
 cases hq : Tryz.prog.info? 46 with
 | none => simp [hq] at hs
 | some i =>
  have hz : i.size = 8 := by simpa [hq] using hs
  simp [part, Sem.run_bind, hagg, sizeOf, typeInfo, hq, hz, h]
set_option maxRecDepth 100000 in
theorem eq26d (d : Nat) (x y : K) (w : World) : (Op.equalIn (d + 2) 46 x.V y.V).run Tryz.prog w = .ok (x.beq y) w := by
 rw [run_equalIn_struct w (d + 1) 46 x.cells y.cells (by rw [Tryz.underlying46]; congr 1) (by kernel_rfl)]
 rw [eq_fields d w _ fun f hf => ?_]
 ·rw [allEq_offs, fields_offs]
  have : allEqO x.cells y.cells [0, 1, 2, 3, 4, 5, 6, 7] = x.beq y := by
   simp [allEqO, K.cells, K.beq]
  rw [this]
 ·have := List.all_eq_true.1 fields_small f hf
  simp at this
  obtain ⟨n, hn⟩ := x.int this.2
  obtain ⟨m, hm⟩ := y.int this.2
  exact ⟨this.1.1, this.1.2, n, m, hn, hm⟩
def Cg.beq (x y : Cg) : Bool := x.ix == y.ix && (x.k.beq y.k && (x.car == y.car && x.mode == y.mode))
theorem Cg.beq_iff {x y : Cg} : x.beq y = true ↔ x = y := by
 cases x; cases y; simp [Cg.beq, K.beq_iff]
theorem Cg.beq_self (x : Cg) : x.beq x = true := Cg.beq_iff.2 rfl
theorem Cg.beq_ne {x y : Cg} (h : x ≠ y) : x.beq y = false := by
 cases e : x.beq y
 ·rfl
 ·exact absurd (Cg.beq_iff.1 e) h
theorem four_fields : ∃ f0 f1 f2 f3 : Field, (Tryz.prog.fieldsOf 48).toList = [f0, f1, f2, f3] ∧ (f0.name ≠ "_" ∧ f0.type = 3 ∧ f0.offset = 0) ∧ (f1.name ≠ "_" ∧ f1.type = 46 ∧ f1.offset = 1) ∧ (f2.name ≠ "_" ∧ f2.type = 3 ∧ f2.offset = 9) ∧ (f3.name ≠ "_" ∧ f3.type = 3 ∧ f3.offset = 10) := by
 refine ⟨((Tryz.prog.fieldsOf 48).toList.getD 0 default), ((Tryz.prog.fieldsOf 48).toList.getD 1 default), ((Tryz.prog.fieldsOf 48).toList.getD 2 default), ((Tryz.prog.fieldsOf 48).toList.getD 3 default), by kernel_rfl, ⟨?_, by kernel_rfl, by kernel_rfl⟩, ⟨?_, by kernel_rfl, by kernel_rfl⟩, ⟨?_, by kernel_rfl, by kernel_rfl⟩, ⟨?_, by kernel_rfl, by kernel_rfl⟩⟩ <;> exact of_decide_eq_true (by kernel_rfl)
set_option maxRecDepth 100000 in
theorem eq39 (x y : Cg) (w : World) : (Op.equalIn 10000 48 x.V y.V).run Tryz.prog w = .ok (x.beq y) w := by
 rw [run_equalIn_struct w 9999 48 x.cells y.cells (by rw [Tryz.underlying48]; congr 1) (by kernel_rfl)]
 obtain ⟨f0, f1, f2, f3, hf, ⟨a0, b0, c0⟩, ⟨a1, b1, c1⟩, ⟨a2, b2, c2⟩, ⟨a3, b3, c3⟩⟩ := four_fields
 rw [hf]
 have u3 := Tryz.underlying3
 have e0 : ∀ z : Cg, z.cells[0]? = some (.int .i64 z.ix) := fun _ => rfl
 have e9 : ∀ z : Cg, z.cells[9]? = some (.int .i64 z.car) := fun _ => rfl
 have e10 : ∀ z : Cg, z.cells[10]? = some (.int .i64 z.mode) := fun _ => rfl
 have ek : ∀ z : Cg, z.cells.extract 1 (1 + 8) = z.k.cells := fun z => by simp [Cg.cells, K.cells]
 unfold Op.eqFields
 rw [if_pos a0, b0, c0, Sem.run_bind, part_int u3 (e0 x) w, Result.andThen_ok, Sem.run_bind, part_int u3 (e0 y) w, Result.andThen_ok, Sem.run_bind, run_equalIn_int w _ 3 .i64 _ x.ix y.ix u3, Result.andThen_ok]
 unfold Cg.beq
 cases x.ix == y.ix
 ·simp
 ·simp only [Bool.not_true, Bool.false_eq_true, if_false, Bool.true_and]
  unfold Op.eqFields
  rw [if_pos a1, b1, c1, Sem.run_bind, part_k (ek x) w, Result.andThen_ok, Sem.run_bind, part_k (ek y) w, Result.andThen_ok, Sem.run_bind, eq26d _ x.k y.k, Result.andThen_ok]
  cases x.k.beq y.k
  ·simp
  ·simp only [Bool.not_true, Bool.false_eq_true, if_false, Bool.true_and]
   unfold Op.eqFields
   rw [if_pos a2, b2, c2, Sem.run_bind, part_int u3 (e9 x) w, Result.andThen_ok, Sem.run_bind, part_int u3 (e9 y) w, Result.andThen_ok, Sem.run_bind, run_equalIn_int w _ 3 .i64 _ x.car y.car u3, Result.andThen_ok]
   cases x.car == y.car
   ·simp
   ·simp only [Bool.not_true, Bool.false_eq_true, if_false, Bool.true_and]
    unfold Op.eqFields
    rw [if_pos a3, b3, c3, Sem.run_bind, part_int u3 (e10 x) w, Result.andThen_ok, Sem.run_bind, part_int u3 (e10 y) w, Result.andThen_ok, Sem.run_bind, run_equalIn_int w _ 3 .i64 _ x.mode y.mode u3, Result.andThen_ok]
    cases x.mode == y.mode
    ·simp
    ·simp [Op.eqFields]
def ints (l : List Int) : Array Value := (l.map (Value.int .i64)).toArray
theorem ints_at {l : List Int} {k : Nat} (h : k < l.length) : (ints l)[k]? = some (.int .i64 (l.getD k 0)) := by simp [ints, h]
def itemsEq (l m : List Int) : List Nat → Bool
 | [] => true
 | i :: is => (l.getD i 0 == m.getD i 0) && itemsEq l m is
theorem eq_items {l m : List Int} (d : Nat) (w : World) : ∀ is : List Nat, (∀ i ∈ is, i < l.length ∧ i < m.length) → (Op.eqItems (d + 1) 3 1 (ints l) (ints m) is).run Tryz.prog w = .ok (itemsEq l m is) w
 | [], _ => by simp [Op.eqItems, itemsEq]
 | i :: is, h => by
  have ih := eq_items d w is (fun j hj => h j (by simp [hj]))
  obtain ⟨h1, h2⟩ := h i (by simp)
  unfold Op.eqItems
  rw [Nat.mul_one, Sem.run_bind, part_int Tryz.underlying3 (ints_at h1) w, Result.andThen_ok, Sem.run_bind, part_int Tryz.underlying3 (ints_at h2) w, Result.andThen_ok, Sem.run_bind, run_equalIn_int w d 3 .i64 _ _ _ Tryz.underlying3, Result.andThen_ok]
  simp only [itemsEq]
  cases l.getD i 0 == m.getD i 0 <;> simp [ih]
def modesEq (l m : List Int) : Bool := itemsEq l m (List.range 4)
theorem modesEq_iff {l m : List Int} (hl : l.length = 4) (hm : m.length = 4) : modesEq l m = true ↔ l = m := by
 match l, hl with
 | [a, b, c, d], _ =>
  match m, hm with
  | [e, f, g, h], _ => simp [modesEq, itemsEq, List.range, List.range.loop]
theorem eq30 {l m : List Int} (hl : l.length = 4) (hm : m.length = 4) (w : World) : (Op.equalIn 10000 35 (.agg (ints l)) (.agg (ints m))).run Tryz.prog w = .ok (modesEq l m) w := by
 obtain ⟨i, hi, h0, h1, h2⟩ := info_parts info3
 rw [run_equalIn_array w 9999 (ints l) (ints m) Tryz.underlying35 hi, show Tryz.prog.cellsOf 3 = 1 by kernel_rfl]
 exact eq_items 9998 w _ fun k hk => by
  have := List.mem_range.1 hk
  omega
section
variable {ρ : Operand → Value} {w : World} {d : Option Tmp} {t t2 : TypeId} {pos : String} {af : Array Edge} {gd : Option (Nat × Bool)} {x y : Operand}
theorem run_eql24 {c e : Cfg} (e1 : ρ x = c.V) (e2 : ρ y = e.V) : (execOp ρ { dst := d, op := Op.binOp .eql 24 x y t2, type := t, pos := pos, after := af, guard := gd }).run Tryz.prog w = .ok (.value (.bool (c.beq e))) w := by
 unfold execOp
 simp only [e1, e2, Sem.run_bind, run_eqGuard_agg (P := Tryz.prog) w .eql 24 x y c.cells e.cells (by kernel_rfl), Result.andThen_ok, run_eql_struct, eq24 c e, Sem.run_pure]
theorem run_eql39 {c e : Cg} (e1 : ρ x = c.V) (e2 : ρ y = e.V) : (execOp ρ { dst := d, op := Op.binOp .eql 48 x y t2, type := t, pos := pos, after := af, guard := gd }).run Tryz.prog w = .ok (.value (.bool (c.beq e))) w := by
 unfold execOp
 simp only [e1, e2, Sem.run_bind, run_eqGuard_agg (P := Tryz.prog) w .eql 48 x y c.cells e.cells (by kernel_rfl), Result.andThen_ok, run_eql_struct, eq39 c e, Sem.run_pure]
theorem run_neq39 {c e : Cg} (e1 : ρ x = c.V) (e2 : ρ y = e.V) : (execOp ρ { dst := d, op := Op.binOp .neq 48 x y t2, type := t, pos := pos, after := af, guard := gd }).run Tryz.prog w = .ok (.value (.bool (!c.beq e))) w := by
 unfold execOp
 simp only [e1, e2, Sem.run_bind, run_eqGuard_agg (P := Tryz.prog) w .neq 48 x y c.cells e.cells (by kernel_rfl), Result.andThen_ok, run_neq_struct, eq39 c e, Sem.run_pure]
theorem run_eql30 {l m : List Int} (hl : l.length = 4) (hm : m.length = 4) (e1 : ρ x = .agg (ints l)) (e2 : ρ y = .agg (ints m)) : (execOp ρ { dst := d, op := Op.binOp .eql 35 x y t2, type := t, pos := pos, after := af, guard := gd }).run Tryz.prog w = .ok (.value (.bool (modesEq l m))) w := by
 unfold execOp
 simp only [e1, e2, Sem.run_bind, run_eqGuard_agg (P := Tryz.prog) w .eql 35 x y (ints l) (ints m) (by kernel_rfl), Result.andThen_ok, run_eql_struct, eq30 hl hm, Sem.run_pure]
end
section
variable {ops : Array Oper} {rest : List Oper} {o : Oper} {a : Act} {w : World} {Q : Exit → Act → World → Prop}
theorem wpList_eql_cfg (x y : Tmp) (t2 : TypeId) (ho : o.op = .binOp .eql 24 (.tmp x) (.tmp y) t2) (hgd : Region.wanted o (yielded ops a.tmps) = true) {c d : Cfg} (e1 : a.eval (.tmp x) = c.V) (e2 : a.eval (.tmp y) = d.V) {b : Bool} (hb : c.beq d = b)
  (k : wpList Tryz.prog ops Q rest (a.put o.dst (.bool b)) w) : wpList Tryz.prog ops Q (o :: rest) a w := by
 obtain ⟨dd, op, t, pos, af, gd⟩ := o
 subst ho; subst hb
 exact wpList_run hgd _ (run_eql24 e1 e2) k
theorem wpList_eql_cg (x y : Tmp) (t2 : TypeId) (ho : o.op = .binOp .eql 48 (.tmp x) (.tmp y) t2) (hgd : Region.wanted o (yielded ops a.tmps) = true) {c d : Cg} (e1 : a.eval (.tmp x) = c.V) (e2 : a.eval (.tmp y) = d.V) {b : Bool} (hb : c.beq d = b)
  (k : wpList Tryz.prog ops Q rest (a.put o.dst (.bool b)) w) : wpList Tryz.prog ops Q (o :: rest) a w := by
 obtain ⟨dd, op, t, pos, af, gd⟩ := o
 subst ho; subst hb
 exact wpList_run hgd _ (run_eql39 e1 e2) k
theorem wpList_build_zc (ho : o.op = .build 24 #[]) (hgd : o.guard = none) (k : wpList Tryz.prog ops Q rest (a.put o.dst zc.V) w) : wpList Tryz.prog ops Q (o :: rest) a w :=
 wpList_build_as hgd 24 #[] ho zc.cells (by kernel_rfl) k
theorem wpList_build_zk (ho : o.op = .build 46 #[]) (hgd : o.guard = none) (k : wpList Tryz.prog ops Q rest (a.put o.dst zk.V) w) : wpList Tryz.prog ops Q (o :: rest) a w :=
 wpList_build_as hgd 46 #[] ho zk.cells (by kernel_rfl) k
end
end Go.Proofs.YtplapoenhohliaaGreat
namespace Go.Proofs.YtplapoenhohliaaGreat
open Go.RowKit Go.Lib
open Sh.Plain (KV get put del Rise)
set_option linter.unusedVariables false
set_option linter.unusedSimpArgs false
set_option maxRecDepth 100000 in
set_option maxHeartbeats 2000000 in
theorem newA_good (c : Cfg) (x : K) (i o b : Int) (w : World) (hc : chkK c x = 0) (h2 : ¬ (i < 1 ∨ o < 1 ∨ b < 0 ∨ top < max (max i o) b)) : Calls Tryz.prog 32 #[c.V, x.V, .int .i64 i, .int .i64 o, .int .i64 b] w (Ans w (newA c x i o b)) := by
 have HT := Lib.hid (Thr.new w c x)
 have CK := Lib.hid (fun W => checkK_any c x W)
 rw [newA_ok hc h2]
 rw [hc] at CK; clear hc
 obtain ⟨M, hM, d1, d2, d3, d4⟩ : ∃ (M : Int), max (max i o) b = M ∧ decide (i < 1) = false ∧ decide (o < 1) = false ∧ decide (b < 0) = false ∧ decide (top < M) = false := by
  refine ⟨_, rfl, ?_, ?_, ?_, ?_⟩ <;> refine decide_eq_false fun h => h2 ?_
  ·exact .inl h
  ·exact .inr (.inl h)
  ·exact .inr (.inr (.inl h))
  ·exact .inr (.inr (.inr h))
 have HM := Lib.hid hM; clear hM h2; unfold top at d4
 go_enter Tryz.func32, Tryz.ntmps32
 go_upto_region 1 with fail
 obtain ⟨W, hW⟩ : ∃ W, ((w.alloc (.cells c.cells 24)).alloc (.cells x.cells 46)).alloc (.cells Z8 46) = W := ⟨_, rfl⟩
 rw [hW] at HT ⊢; clear hW
 generalize w.heap.size + 1 + 1 = q at HT ⊢
 generalize w.heap.size + 1 = p at HT ⊢
 generalize w.heap.size = g at HT ⊢
 have HA := Lib.hid HT.out.two.at_; have HC := Lib.hid HT.out.cat
 go_wp2_with (first | ((with_reducible apply wpList_load_cat (h := HC.out)); exact rfl; exact rfl; exact rfl) | ((with_reducible apply wpList_load_kat (h := HA.out)); exact rfl; exact rfl; exact rfl))
 refine (CK.out _).mono ?_
 rintro e w1 ⟨rfl, hb⟩
 have H1 := Lib.hid (HT.out.step hb).two; clear hb HA HC HT CK
 have k0 := H1.out.at_.get0; have f0 := At.frozen H1.out.at_ 0
 have H2 := Lib.hid (H1.out.set0 i); have k6 := H2.out.at_.get6; have f6 := At.frozen H2.out.at_ 6
 have H3 := Lib.hid (H2.out.set6 o); have k7 := H3.out.at_.get7; have f7 := At.frozen H3.out.at_ 7
 have H4 := Lib.hid (H3.out.set7 b); have k5 := H4.out.at_.get5; have f5 := At.frozen H4.out.at_ 5
 have H5 := Lib.hid (H4.out.set5 1); clear H1 H2 H3 H4
 generalize hd : ({ x with id := i, own := o, born := b, st := 1 } : K) = d at H5
 have HA := Lib.hid H5.out.at_
 obtain ⟨z, hz⟩ := H5.out.ans
 have HZ := Lib.hid hz; have HD := Lib.hid hd; clear hz hd
 go_wp2_with (first | ((with_reducible apply wpList_max3 HM.out); exact rfl; exact rfl; exact rfl; exact rfl; exact rfl) | ((with_reducible apply wpList_load_kat (h := HA.out)); exact rfl; exact rfl; exact rfl) | ((with_reducible apply wpList_store_kat (c := d) (hq := HZ.out)); exact rfl; exact rfl; exact rfl; exact rfl))
 exact bodyPost_ret (results_pair Tryz.results32 rfl rfl (H5.out.out d).1) rfl (H5.out.fin (by rw [HD.out]))
theorem newA_any (c : Cfg) (x : K) (i o b : Int) (w : World) : Calls Tryz.prog 32 #[c.V, x.V, .int .i64 i, .int .i64 o, .int .i64 b] w (Ans w (newA c x i o b)) := by
 by_cases hc : chkK c x = 0
 ·by_cases h2 : i < 1 ∨ o < 1 ∨ b < 0 ∨ top < max (max i o) b
  ·exact newA_args c x i o b w hc h2
  ·exact newA_good c x i o b w hc h2
 ·exact newA_bad c x i o b w hc
section
variable {w w' : World} {b : Bk} {o p : Option Addr}
theorem index_any (b : Bk) (o p : Option Addr) (w : World) : Calls Tryz.prog 20 #[b.V o p] w (Num w b.ix) := by
 have H := Lib.hid (new1 w (b.cells o p) 37)
 go_enter Tryz.func20, Tryz.ntmps20
 go_upto_region 1 with fail
 obtain ⟨W, hW⟩ : ∃ W, w.alloc (.cells (b.cells o p) 37) = W := ⟨_, rfl⟩
 rw [hW] at H ⊢; clear hW
 have k := BkAt.k18 H.out.2
 go_wp2_with fail
 go_ret
 exact ⟨rfl, H.out.1⟩
def modeB (b : Bk) (n : Int) : Int := if 1 ≤ n ∧ n ≤ 4 then b.m.getD (n - 1).toNat 0 else 0
theorem modeB_at {b : Bk} {i : Nat} (h : i < 4) : modeB b ((i : Int) + 1) = b.m.getD i 0 := by
 unfold modeB; rw [if_pos (by omega)]; congr 1; omega
set_option maxHeartbeats 800000 in
theorem mode_any (b : Bk) (o p : Option Addr) (n : Int) (w : World) : Calls Tryz.prog 55 #[b.V o p, .int .i64 n] w (Num w (modeB b n)) := by
 have H := Lib.hid (new1 w (b.cells o p) 37)
 by_cases h1 : n < 1
 ·have e : modeB b n = 0 := if_neg (by omega)
  rw [e]; clear e
  go_enter Tryz.func55, Tryz.ntmps55
  go_wp2_with fail
  go_ret
  exact ⟨rfl, H.out.1⟩
 ·by_cases h2 : 4 < n
  ·have e : modeB b n = 0 := if_neg (by omega)
   rw [e]; clear e
   go_enter Tryz.func55, Tryz.ntmps55
   go_wp2_with fail
   go_ret
   exact ⟨rfl, H.out.1⟩
  ·obtain ⟨i, hi, rfl⟩ : ∃ i : Nat, i < 4 ∧ n = (i : Int) + 1 := ⟨(n - 1).toNat, by omega, by omega⟩
   rw [modeB_at hi]
   have e1 : IntKind.i64.wrap ((i : Int) + 1 - 1) = (i : Int) := by rw [IntWalk.i64_in _ (by omega)]; omega
   generalize hv : b.m.getD i 0 = v
   have HV := Lib.hid hv; clear hv
   go_enter Tryz.func55, Tryz.ntmps55
   go_upto_region 3 with fail
   obtain ⟨W, hW⟩ : ∃ W, w.alloc (.cells (b.cells o p) 37) = W := ⟨_, rfl⟩
   rw [hW] at H ⊢; clear hW
   have k := BkAt.kM H.out.2 hi
   rw [HV.out] at k
   have b1 : (i : Int) < 4 := by omega
   have b2 : (0 : Int) ≤ (i : Int) := by omega
   go_wp2_with fail
   go_ret
   exact ⟨rfl, H.out.1⟩
theorem isNone_any (b : Bk) (o p : Option Addr) (w : World) : Calls Tryz.prog 35 #[b.V o p] w (Yes w (b.c.beq zc)) := by
 have H := Lib.hid (new1 w (b.cells o p) 37)
 go_enter Tryz.func35, Tryz.ntmps35
 go_upto_region 1 with fail
 obtain ⟨W, hW⟩ : ∃ W, w.alloc (.cells (b.cells o p) 37) = W := ⟨_, rfl⟩
 rw [hW] at H ⊢; clear hW
 have HC := Lib.hid (BkAt.kc H.out.2)
 go_wp2_with (first | ((with_reducible apply wpList_load_cpart (c := b.c) (h := HC.out)); exact rfl; exact rfl; exact rfl) | ((with_reducible apply wpList_build_zc); exact rfl; exact rfl) | ((with_reducible apply wpList_eql_cfg (c := b.c) (d := zc) (hb := rfl)); exact rfl; exact rfl; exact rfl; exact rfl))
 go_ret
 exact ⟨rfl, H.out.1⟩
theorem isOver_any (b : Bk) (o p : Option Addr) (w : World) : Calls Tryz.prog 51 #[b.V o p] w (Yes w (b.ix == top)) := by
 have H := Lib.hid (new1 w (b.cells o p) 37)
 obtain ⟨t, ht⟩ : ∃ t : Bool, (b.ix == top) = t := ⟨_, rfl⟩
 rw [ht]
 have d1 : (b.ix == 1073741824) = t := ht
 have d2 : decide (b.ix = 1073741824) = t := by rw [← ht]; rfl
 clear ht
 go_enter Tryz.func51, Tryz.ntmps51
 go_upto_region 1 with fail
 obtain ⟨W, hW⟩ : ∃ W, w.alloc (.cells (b.cells o p) 37) = W := ⟨_, rfl⟩
 rw [hW] at H ⊢; clear hW
 have k := BkAt.k18 H.out.2
 generalize b.ix = z at *
 go_wp2_with fail
 go_ret
 exact ⟨rfl, H.out.1⟩
end
end Go.Proofs.YtplapoenhohliaaGreat
