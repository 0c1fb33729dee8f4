import Derived.Test.YtplapoenhohliaaGreatVtL
import Derived.Great.BuildSlice
namespace Go.Proofs.YtplapoenhohliaaGreat
open Go.RowKit Go.Lib
open Sh.Plain (KV Rise)
set_option linter.unusedVariables false
set_option linter.unusedSimpArgs false
namespace Sh
theorem OwO.lit0 {α : Type} (E : El α) (w : World) {B : Nat} (hB : B ≤ w.heap.size) : OwO E (w.alloc (.cells #[] E.e)) B (.slice (some ⟨w.heap.size, 0, none⟩) 0 0) [] := (Own.lit0 E w hB).owO
end Sh
section
variable {c : Cfg} {w W W' : World} {g : Nat} {x : Vt} {hs xs : List Cg}
theorem VS.other (h : VS c w W g x hs xs) {S : Nat → Prop} (hc : Chg W W' S) (h1 : ∀ k, S k → w.heap.size ≤ k) (h2 : ¬ S g) (h3 : ∀ k, x.v.ownBlock = some k → ¬ S k) (h4 : Sh.Off W S) : VS c w W' g x hs xs :=
 ⟨h.bel.trans (hc.toBelow h.bel.size (fun k hk e => by have := h1 k e; omega)), At.chg h.vt hc h2, h.at_.chg hc h4, h.ow.chg hc h3, h.lo, h.made, h.lg⟩
theorem VS.one (h : VS c w W g x hs xs) {q : Nat} {t : TypeId} {cs : Array Value} (hc : Chg W W' (fun k => k = q)) (ha : At W q t cs) (hq : w.heap.size ≤ q) (t1 : t ≠ 82) (t2 : t ≠ 48) (t3 : t ≠ 137) (t4 : t ≠ 119) : VS c w W' g x hs xs :=
 h.other hc (fun k e => by subst e; exact hq) (fun e => by subst e; exact At.ne ha h.vt t1 rfl) (fun k hk e => h.ow.ty ha (Ne.symm t2) (e ▸ hk)) (Off.one ha t3 t4)
end
def Old (c : Cfg) (hs : List Cg) (W : World) (s : Sp) : Prop := BAt W s.b s.o s.p ∧ ∃ j, j ≤ hs.length ∧ Mk c s.b (hs.take j)
theorem Old.now {c : Cfg} {w W : World} {g : Nat} {x : Vt} {hs xs : List Cg} (h : VS c w W g x hs xs) : Old c hs W x.s := ⟨h.at_, hs.length, Nat.le_refl _, by rw [List.take_length]; exact h.made⟩
theorem Old.more {c : Cfg} {hs : List Cg} {W : World} {s : Sp} (h : Old c hs W s) (y : Cg) : Old c (hs ++ [y]) W s := by
 obtain ⟨h1, j, hj, h2⟩ := h
 exact ⟨h1, j, by rw [List.length_append]; omega, by rw [List.take_append_of_le_length hj]; exact h2⟩
theorem Old.same {c : Cfg} {hs : List Cg} {W : World} {s : Sp} {b : Bk} (h : Old c hs W s) (hb : Mk c b hs) (hi : s.b.ix = b.ix) : s.b = b := by
 obtain ⟨_, j, hj, h2⟩ := h
 have h3 := h2.len
 have h4 := hb.len
 rw [List.length_take] at h3
 have : j = hs.length := by omega
 subst this
 rw [List.take_length] at h2
 exact h2.eq hb
theorem Old.ok {c : Cfg} {hs : List Cg} {W : World} {s : Sp} (h : Old c hs W s) : s.b.Ok := by obtain ⟨_, j, _, h2⟩ := h; exact h2.ok
section
variable {c : Cfg} {w W W' : World} {g : Nat} {x : Vt} {hs : List Cg} {rv : Value} {ss : List Sp} {q : Nat} {o p : Option Addr}
theorem Old.step {s : Sp} (h : Old c hs W s) (hb : Below W.heap.size W W') : Old c hs W' s := ⟨h.1.step hb, h.2⟩
theorem Old.chg {s : Sp} {S : Nat → Prop} (h : Old c hs W s) (hc : Chg W W' S) (hS : Sh.Off W S) : Old c hs W' s := ⟨h.1.chg hc hS, h.2⟩
end
abbrev DdAt (w : World) (g : Nat) (y : Dd) : Prop := At w g 58 y.cells
theorem size58 (y : Dd) : (Tryz.prog.info? 58).map (·.size) = some y.cells.size := by kernel_rfl
theorem size58l (y : Dd) : (Tryz.prog.info? 58).map (·.size) = some y.cells.toList.length := by kernel_rfl
theorem Dd.one (y : Dd) : y.cells.all (·.oneCell') = true := by simp [Dd.cells, Value.oneCell']
theorem DdAt.k0 {w : World} {g : Nat} {y : Dd} (h : DdAt w g y) : w.cell? ⟨g, 0, none⟩ = some (.int .i64 y.kind) := by rw [At.cell h]; rfl
theorem DdAt.k1 {w : World} {g : Nat} {y : Dd} (h : DdAt w g y) : w.cell? ⟨g, 1, none⟩ = some (.int .i64 y.who) := by rw [At.cell h]; rfl
theorem DdAt.k10 {w : World} {g : Nat} {y : Dd} (h : DdAt w g y) : w.cell? ⟨g, 10, none⟩ = some (.int .i64 y.n) := by rw [At.cell h]; rfl
theorem DdAt.x {w : World} {g : Nat} {y : Dd} (h : DdAt w g y) : w.rangeAt g 2 y.x.cells.toList := fun j u hu => by
 rw [At.cell h]
 have hu' : y.x.cells[j]? = some u := by simpa using hu
 have hj : j < 8 := (Array.getElem?_eq_some_iff.1 hu').1
 match j, hj with
 | 0, _ => exact hu'
 | 1, _ => exact hu'
 | 2, _ => exact hu'
 | 3, _ => exact hu'
 | 4, _ => exact hu'
 | 5, _ => exact hu'
 | 6, _ => exact hu'
 | 7, _ => exact hu'
section
variable {ops : Array Oper} {rest : List Oper} {o : Oper} {a : Act} {w : World} {Q : Exit → Act → World → Prop}
theorem wpList_load_dd (x : Tmp) (ho : o.op = .load 58 (.tmp x)) (hgd : Region.wanted o (yielded ops a.tmps) = true) {g off : Nat} {y : Dd} (e : a.eval (.tmp x) = ptr g off) (h : w.rangeAt g off y.cells.toList)
  (k : wpList Tryz.prog ops Q rest (a.put o.dst y.V) w) : wpList Tryz.prog ops Q (o :: rest) a w := by
 obtain ⟨dd, op, t, pos, af, gd⟩ := o
 subst ho
 refine wpList_run hgd _ ?_ k
 unfold execOp
 simp only [e, Instr.loadAt, Instr.sureAddr, Sem.run_bind, Sem.run_pure, Result.andThen_ok, run_loadVar_mid (P := Tryz.prog) w g off 58 _ _ h Tryz.underlying58 rfl (size58l y), Array.toArray_toList]
theorem wpList_store_ddnew (x y : Tmp) (ho : o.op = .store 58 (.tmp x) (.tmp y)) (hgd : o.guard = none) {c : Dd} (e1 : a.eval (.tmp x) = ptr w.heap.size 0) (e2 : a.eval (.tmp y) = c.V)
  (k : wpList Tryz.prog ops Q rest (a.put o.dst undef) (w.alloc (.cells c.cells 58))) : wpList Tryz.prog ops Q (o :: rest) a (w.alloc (.cells Z11 58)) := by
 refine wpList_store_row hgd 58 (.tmp x) (.tmp y) ho w.heap.size c.cells e1 e2 58 Z11 (At.new w 58 Z11) (size58 c) rfl c.one ?_
 rw [World.setRow_alloc_new]
 exact k
theorem wpList_store_spm (x y : Tmp) (ho : o.op = .store 44 (.tmp x) (.tmp y)) (hgd : o.guard = none) {g off : Nat} {s : Sp} (ht : w.there g off 51) (e1 : a.eval (.tmp x) = ptr g off) (e2 : a.eval (.tmp y) = s.V)
  (k : wpList Tryz.prog ops Q rest (a.put o.dst undef) (w.setCells g off s.list)) : wpList Tryz.prog ops Q (o :: rest) a w := by
 have h := wpList_store_mid (P := Tryz.prog) (ops := ops) (rest := rest) (op := o) (a := a) (w := w) (Q := Q) hgd 44 (.tmp x) (.tmp y) ho g off s.cells e1 e2 (by rw [s.size]; exact ht) (size44 s) s.one
 refine h ?_
 simpa [Sp.cells] using k
end
end Go.Proofs.YtplapoenhohliaaGreat
namespace Go.Proofs.YtplapoenhohliaaGreat
open Go.RowKit Go.Lib
set_option linter.unusedVariables false
set_option linter.unusedSimpArgs false
theorem chg_row (W : World) (q : Nat) (cs : Array Value) : Chg W (W.setRow q cs) (fun j => j = q) := by
 refine ⟨rfl, rfl, rfl, by simp [World.setRow], fun k hk1 hn => ?_⟩
 simp only [World.setRow, Array.getElem?_modify]
 rw [if_neg (fun e => hn e.symm)]
section
variable {c : Cfg} {w W W' : World} {g : Nat} {x x' : Vt} {hs hs' : List Cg} {rv : Value} {ss : List Sp} {q : Nat} {o p : Option Addr} {g10 q12 q13 q14 : Nat} {y : Dd} {s : Sp} {d b : Bk} {o' p' : Option Addr} {ch : Cg}
end
section
variable {ops : Array Oper} {rest : List Oper} {o : Oper} {a : Act} {w : World} {Q : Exit → Act → World → Prop}
theorem wpList_store_bknew (x y : Tmp) (ho : o.op = .store 37 (.tmp x) (.tmp y)) (hgd : o.guard = none) {b : Bk} {s t : Option Addr} (e1 : a.eval (.tmp x) = ptr w.heap.size 0) (e2 : a.eval (.tmp y) = b.V s t)
  (k : wpList Tryz.prog ops Q rest (a.put o.dst undef) (w.alloc (.cells (b.cells s t) 37))) : wpList Tryz.prog ops Q (o :: rest) a (w.alloc (.cells Z29 37)) := by
 refine wpList_store_row hgd 37 (.tmp x) (.tmp y) ho w.heap.size (b.cells s t) e1 e2 37 Z29 (At.new w 37 Z29) (size32 b s t) (by rw [b.size]; rfl) (b.one s t) ?_
 rw [World.setRow_alloc_new]
 exact k
theorem wpList_store_cgnew (x y : Tmp) (ho : o.op = .store 48 (.tmp x) (.tmp y)) (hgd : o.guard = none) {c : Cg} (e1 : a.eval (.tmp x) = ptr w.heap.size 0) (e2 : a.eval (.tmp y) = c.V)
  (k : wpList Tryz.prog ops Q rest (a.put o.dst undef) (w.alloc (.cells c.cells 48))) : wpList Tryz.prog ops Q (o :: rest) a (w.alloc (.cells Z11 48)) := by
 refine wpList_store_row hgd 48 (.tmp x) (.tmp y) ho w.heap.size c.cells e1 e2 48 Z11 (At.new w 48 Z11) (size39 c) rfl c.one ?_
 rw [World.setRow_alloc_new]
 exact k
end
end Go.Proofs.YtplapoenhohliaaGreat
