/- The memory of BookReplays: who ended (a map), the row of changes, a deed's block. -/
import Derived.Test.YtodacdooooeofaaBkQ0
import Derived.Maps.OwnSet
namespace Go.Proofs.Ytodacdooooeofaa
open Go.RowKit Go.Lib
open Sh.Plain (KV put del Rise)
set_option linter.unusedVariables false
set_option linter.unusedSimpArgs false
set_option maxRecDepth 100000

def eG : Sh.El Cg := ⟨34, 39, 11, 88, .agg zg.cells, fun x => x.cells.toList, fun _ => rfl, by simp [Cg.cells, Value.oneCell'], by decide, Try.underlying34, Sh.info_of (by kernel_rfl), rfl, by decide⟩
theorem keyed3 : Maps.Keyed Try.prog 3 := Maps.int_keyed Try.underlying3
theorem zero3 (w : World) : (zeroValue 3).run Try.prog w = .ok (.int .i64 0) w := by kernel_rfl
/-- a map of who ended -/
def EAt (w : World) (b n : Nat) (F : Int → Bool) : Prop :=
  ∃ D : DataW Unit, w.ownsMap Try.prog 3 (plainElem Try.prog 3) b n D ∧ ∀ x, (Lit.int .i64 x).wf = true → D.atKey (.int .i64 x) (.lit (.int .i64 0)) = .lit (.int .i64 (if F x = true then 1 else 0))
theorem EAt.new (w : World) : EAt (w.alloc (.map #[] 0)) w.heap.size 0 (fun _ => false) :=
  ⟨.map [], World.ownsMap_made w _ _ _, fun x _ => rfl⟩
theorem EAt.below {w w' : World} {b n : Nat} {F : Int → Bool} (h : EAt w b n F) (hb : Below w.heap.size w w') : EAt w' b n F := by
  obtain ⟨D, h1, h2⟩ := h
  exact ⟨D, h1.kept (row := none) ⟨hb.os, hb.tape, hb.output, hb.size, fun i hi _ => hb.block i hi⟩ (by simp), h2⟩
theorem EAt.lt {w : World} {b n : Nat} {F : Int → Bool} (h : EAt w b n F) : b < w.heap.size := by obtain ⟨D, h1, _⟩ := h; exact h1.lt
/-- rows stored in another block -/
theorem EAt.chg {w w' : World} {b n : Nat} {F : Int → Bool} {S : Nat → Prop} (h : EAt w b n F) (hc : Chg w w' S) (hS : ¬ S b) : EAt w' b n F := by
  obtain ⟨D, h1, h2⟩ := h
  refine ⟨D, ?_, h2⟩
  have hlt := h1.lt
  obtain ⟨es, clock, hb, F, hs, hD⟩ := h1
  exact ⟨es, clock, (hc.block b hlt hS).trans hb, F, hs, hD⟩
theorem chg_setRow (w : World) (q : Nat) (cs : Array Value) : Chg w (w.setRow q cs) (fun k => k = q) := by
  refine ⟨rfl, rfl, rfl, by simp [World.setRow], fun k _ hk => ?_⟩
  unfold World.setRow
  simp only [Array.getElem?_modify]
  rw [if_neg (fun e => hk e.symm)]
theorem EAt.apart {w : World} {b n q : Nat} {F : Int → Bool} {t : TypeId} {cs : Array Value} (h : EAt w b n F) (ha : At w q t cs) : b ≠ q := by
  obtain ⟨D, h1, _⟩ := h
  obtain ⟨es, clock, hb, _⟩ := h1
  rintro rfl
  have : Obj.map es clock = Obj.cells cs t (0, 0) := Option.some.inj (hb.symm.trans ha)
  cases this
theorem EAt.setRow {w : World} {b n q : Nat} {F : Int → Bool} {t : TypeId} {cs : Array Value} (h : EAt w b n F) (ha : At w q t cs) (ds : Array Value) : EAt (w.setRow q ds) b n F := h.chg (chg_setRow w q ds) (h.apart ha)
theorem EAt.look {w : World} {b n : Nat} {F : Int → Bool} (h : EAt w b n F) {x : Int} (hx : (Lit.int .i64 x).wf = true) : (Instr.lookup 35 (.map (some b)) (.int .i64 x) false).run Try.prog w = .ok (.int .i64 (if F x = true then 1 else 0)) w := by
  obtain ⟨D, h1, h2⟩ := h
  obtain ⟨c, hrun, hat, _⟩ := h1.lookup_int (t := 35) (q := .i64) keyed3 Try.underlying35 Try.underlying3 (zero3 w) (Maps.keyOf_int_mk Try.underlying3 hx)
  rw [h2 x hx] at hat
  have hc : (if F x = true then (1 : Int) else 0) = c := by injection hat with h; injection h
  rw [hc]; exact hrun
theorem EAt.update {w : World} {b n : Nat} {F : Int → Bool} (h : EAt w b n F) (hn : n < 100000) {x : Int} (hx : (Lit.int .i64 x).wf = true) : ∃ w', (Instr.mapUpdate 35 (.map (some b)) (.int .i64 x) (.int .i64 1)).run Try.prog w = .ok () w' ∧ EAt w' b (n + 1) (fun z => F z || decide (z = x)) ∧ Chg w w' (fun k => k = b) := by
  obtain ⟨D, h1, h2⟩ := h
  obtain ⟨w', hrun, h3, hg⟩ := h1.update (t := 35) keyed3 Try.underlying35 (by unfold maxLen; omega) (Maps.keyOf_int_mk Try.underlying3 hx) (plainElem_int (a := 1) Try.underlying3 (by decide))
  refine ⟨w', hrun, ⟨_, h3, fun z hz => ?_⟩, (Chg.grown hg).mono (fun i _ e => (Option.some.inj e).symm)⟩
  by_cases e : z = x
  · subst e
    rw [Maps.atKey_put_same h1.isMap (show WideAt.IsKeyLit (.int .i64 z) from trivial)]
    simp
  · rw [Maps.atKey_put_other (fun h => e (by injection h)), h2 z hz]
    simp [e]
/-- a deed in a block of its own -/
abbrev DdAt (w : World) (g : Nat) (y : Dd) : Prop := At w g 41 y.cells
theorem size41 (y : Dd) : (Try.prog.info? 41).map (·.size) = some y.cells.size := by kernel_rfl
theorem Dd.one (y : Dd) : y.cells.all (·.oneCell') = true := by simp [Dd.cells, Value.oneCell']
theorem DdAt.rng {w : World} {g : Nat} {y : Dd} (h : DdAt w g y) : w.rangeAt g 0 y.cells.toList := fun j u hu => by
  rw [Nat.zero_add, At.cell h]; simpa using hu
theorem DdAt.k0 {w : World} {g : Nat} {y : Dd} (h : DdAt w g y) : w.cell? ⟨g, 0, none⟩ = some (.int .i64 y.kind) := (Dd.at_ h.rng).1
theorem DdAt.k9 {w : World} {g : Nat} {y : Dd} (h : DdAt w g y) : w.cell? ⟨g, 9, none⟩ = some (.int .i64 y.n) := by have := (Dd.at_ h.rng).2.2.1; rwa [Nat.zero_add] at this
theorem DdAt.k10 {w : World} {g : Nat} {y : Dd} (h : DdAt w g y) : w.cell? ⟨g, 10, none⟩ = some (.int .i64 y.m) := by have := (Dd.at_ h.rng).2.2.2.1; rwa [Nat.zero_add] at this
theorem DdAt.x {w : World} {g : Nat} {y : Dd} (h : DdAt w g y) : w.rangeAt g 1 y.x.cells.toList := by have := (Dd.at_ h.rng).2.1; rwa [Nat.zero_add] at this
theorem DdAt.ch {w : World} {g : Nat} {y : Dd} (h : DdAt w g y) : w.rangeAt g 11 y.ch.cells.toList := by have := (Dd.at_ h.rng).2.2.2.2; rwa [Nat.zero_add] at this
abbrev Z22 : Array Value := #[.int .i64 0, .int .i64 0, .int .i64 0, .int .i64 0, .int .i64 0, .int .i64 0, .int .i64 0, .int .i64 0, .int .i64 0, .int .i64 0, .int .i64 0, .int .i64 0, .int .i64 0, .int .i64 0, .int .i64 0, .int .i64 0, .int .i64 0, .int .i64 0, .int .i64 0, .int .i64 0, .int .i64 0, .int .i64 0]
section
variable {ops : Array Oper} {rest : List Oper} {o : Oper} {a : Act} {w : World} {Q : Exit → Act → World → Prop}
theorem wpList_load_dd (x : Tmp) (ho : o.op = .load 41 (.tmp x)) (hgd : Region.wanted o (yielded ops a.tmps) = true) {g off : Nat} {y : Dd} (e : a.eval (.tmp x) = ptr g off) (h : w.rangeAt g off y.cells.toList)
    (k : wpList Try.prog ops Q rest (a.put o.dst y.V) w) : wpList Try.prog ops Q (o :: rest) a w :=
  wpList_load_part 41 x ho hgd e h Try.underlying41 rfl (size41 y) k
theorem wpList_store_ddnew (x y : Tmp) (ho : o.op = .store 41 (.tmp x) (.tmp y)) (hgd : o.guard = none) {c : Dd} (e1 : a.eval (.tmp x) = ptr w.heap.size 0) (e2 : a.eval (.tmp y) = c.V)
    (k : wpList Try.prog ops Q rest (a.put o.dst undef) (w.alloc (.cells c.cells 41))) : wpList Try.prog ops Q (o :: rest) a (w.alloc (.cells Z22 41)) := by
  refine wpList_store_row hgd 41 (.tmp x) (.tmp y) ho w.heap.size c.cells e1 e2 41 Z22 (At.new w 41 Z22) (size41 c) rfl c.one ?_
  rw [World.setRow_alloc_new]
  exact k
theorem wpList_store_bknew (x y : Tmp) (ho : o.op = .store 32 (.tmp x) (.tmp y)) (hgd : o.guard = none) {b : Bk} {s t : Option Addr} (e1 : a.eval (.tmp x) = ptr w.heap.size 0) (e2 : a.eval (.tmp y) = b.V s t)
    (k : wpList Try.prog ops Q rest (a.put o.dst undef) (w.alloc (.cells (b.cells s t) 32))) : wpList Try.prog ops Q (o :: rest) a (w.alloc (.cells Z29 32)) := by
  refine wpList_store_row hgd 32 (.tmp x) (.tmp y) ho w.heap.size (b.cells s t) e1 e2 32 Z29 (At.new w 32 Z29) (size32 b s t) (by rw [b.size]; rfl) (b.one s t) ?_
  rw [World.setRow_alloc_new]
  exact k
theorem wpList_store_cgnew (x y : Tmp) (ho : o.op = .store 39 (.tmp x) (.tmp y)) (hgd : o.guard = none) {c : Cg} (e1 : a.eval (.tmp x) = ptr w.heap.size 0) (e2 : a.eval (.tmp y) = c.V)
    (k : wpList Try.prog ops Q rest (a.put o.dst undef) (w.alloc (.cells c.cells 39))) : wpList Try.prog ops Q (o :: rest) a (w.alloc (.cells Z11 39)) := by
  refine wpList_store_row hgd 39 (.tmp x) (.tmp y) ho w.heap.size c.cells e1 e2 39 Z11 (At.new w 39 Z11) (size39 c) rfl c.one ?_
  rw [World.setRow_alloc_new]
  exact k
theorem wpList_load_cgp (x : Tmp) (ho : o.op = .load 39 (.tmp x)) (hgd : Region.wanted o (yielded ops a.tmps) = true) {g off : Nat} {c : Cg} (e : a.eval (.tmp x) = ptr g off) (h : w.rangeAt g off c.cells.toList)
    (k : wpList Try.prog ops Q rest (a.put o.dst c.V) w) : wpList Try.prog ops Q (o :: rest) a w :=
  wpList_load_part 39 x ho hgd e h Try.underlying39 rfl (size39 c) k
theorem wpList_slice_cg (y : Tmp) (ho : o.op = .buildSlice 34 1 #[(0, .tmp y)]) (hgd : o.guard = none) {c : Cg} (e : a.eval (.tmp y) = c.V)
    (k : wpList Try.prog ops Q rest (a.put o.dst (.slice (some ⟨w.heap.size, 0, none⟩) 1 1)) (w.alloc (.cells c.cells 39))) : wpList Try.prog ops Q (o :: rest) a w := by
  obtain ⟨ie, hie, hz, hsz, _⟩ := Sh.info_of (e := 39) (z := .agg Z11) (s := 11) (b := 88) (by kernel_rfl)
  refine wpList_buildSlice hgd 34 39 1 _ ho c.cells ie (.agg Z11) Try.underlying34 hie hz (by rw [hsz]; decide) (by rw [hsz]; decide) ?_ k
  rw [hsz]
  simp only [List.map_toArray, List.map_cons, List.map_nil, e]
  kernel_rfl
end
end Go.Proofs.Ytodacdooooeofaa
