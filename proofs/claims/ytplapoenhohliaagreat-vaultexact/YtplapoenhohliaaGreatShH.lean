import Derived.Test.YtplapoenhohliaaGreatBkB
import Derived.Test.YtplapoenhohliaaGreatBkK
import Derived.Deep.MidRow
import Derived.Test.YtplapoenhohliaaGreatStD
namespace Go.Proofs.YtplapoenhohliaaGreat
open Go.RowKit Go.Lib
set_option linter.unusedVariables false
set_option linter.unusedSimpArgs false
structure Yk where
 cs : Array Value
 sz : cs.size = 21
 one : cs.all (·.oneCell') = true
abbrev Yk.V (k : Yk) : Value := .agg k.cs
abbrev Z21 : Array Value := #[.int .i64 0, .int .i64 0, .int .i64 0, .int .i64 0, .int .i64 0, .int .i64 0, .int .i64 0, .int .i64 0, .int .i64 0, .int .i64 0, .int .i64 0, .int .i64 0, .int .i64 0, .int .i64 0, .int .i64 0, .int .i64 0, .int .i64 0, .int .u32 0, .pointer none, .int .i64 0, .int .i64 0]
def zy : Yk := ⟨Z21, rfl, by simp [Value.oneCell']⟩
structure Sp where
 b : Bk
 o : Option Addr
 p : Option Addr
 k : Yk
 t : Int
def Sp.list (s : Sp) : List Value := (s.b.cells s.o s.p).toList ++ (s.k.cs.toList ++ [.int .i64 s.t])
def Sp.cells (s : Sp) : Array Value := s.list.toArray
abbrev Sp.V (s : Sp) : Value := .agg s.cells
def zs : Sp := ⟨zb, none, none, zy, 0⟩
abbrev Z51 : Array Value := #[.int .i64 0, .int .i64 0, .int .i64 0, .int .i64 0, .int .i64 0, .int .i64 0, .int .i64 0, .int .i64 0, .int .i64 0, .int .i64 0, .int .i64 0, .int .i64 0, .int .i64 0, .int .i64 0, .int .i64 0, .int .i64 0, .int .i64 0, .int .u32 0, .int .i64 0, .pointer none, .int .i64 0, .int .i64 0, .pointer none, .int .i64 0, .int .i64 0, .int .i64 0, .int .i64 0, .int .i64 0, .int .i64 0,
 .int .i64 0, .int .i64 0, .int .i64 0, .int .i64 0, .int .i64 0, .int .i64 0, .int .i64 0, .int .i64 0, .int .i64 0, .int .i64 0, .int .i64 0, .int .i64 0, .int .i64 0, .int .i64 0, .int .i64 0, .int .i64 0, .int .i64 0, .int .u32 0, .pointer none, .int .i64 0, .int .i64 0, .int .i64 0]
structure Vt where
 s : Sp
 v : Value
 n : Int
 m : Int
def Vt.list (x : Vt) : List Value := x.s.list ++ [x.v, .int .i64 x.n, .int .i64 x.m]
def Vt.cells (x : Vt) : Array Value := x.list.toArray
abbrev Vt.V (x : Vt) : Value := .agg x.cells
theorem oneC {α : Type} {P : α → Bool} {a : Array α} (h : a.all P = true) : ∀ u ∈ a.toList, P u = true := fun u hu => (Array.all_eq_true_iff_forall_mem.1 h) u (by simpa using hu)
theorem Sp.len (s : Sp) : s.list.length = 51 := by
 have h1 : (s.b.cells s.o s.p).toList.length = 29 := by rw [Array.length_toList]; exact s.b.size s.o s.p
 have h2 : s.k.cs.toList.length = 21 := by rw [Array.length_toList]; exact s.k.sz
 simp only [Sp.list, List.length_append, h1, h2, List.length_cons, List.length_nil]
theorem Sp.size (s : Sp) : s.cells.size = 51 := by simp [Sp.cells, s.len]
theorem Sp.oneL (s : Sp) : ∀ u ∈ s.list, u.oneCell' = true := fun u hu => by
 simp only [Sp.list, List.mem_append] at hu
 rcases hu with h | h | h
 ·exact oneC (s.b.one s.o s.p) u h
 ·exact oneC s.k.one u h
 ·have : u = .int .i64 s.t := by simpa using h
  subst this; rfl
theorem Sp.one (s : Sp) : s.cells.all (·.oneCell') = true := all_oneCell_toArray s.oneL
theorem Vt.len (x : Vt) : x.list.length = 54 := by simp [Vt.list, x.s.len]
theorem Vt.size (x : Vt) : x.cells.size = 54 := by simp [Vt.cells, x.len]
theorem size44 (s : Sp) : (Tryz.prog.info? 44).map (·.size) = some s.cells.size := by rw [s.size]; kernel_rfl
theorem size44l (s : Sp) : (Tryz.prog.info? 44).map (·.size) = some s.list.length := by rw [s.len]; kernel_rfl
theorem size37l (b : Bk) (o p : Option Addr) : (Tryz.prog.info? 37).map (·.size) = some (b.cells o p).toList.length := by rw [Array.length_toList, b.size]; kernel_rfl
theorem size42l (k : Yk) : (Tryz.prog.info? 42).map (·.size) = some k.cs.toList.length := by rw [Array.length_toList, k.sz]; kernel_rfl
theorem size42 (k : Yk) : (Tryz.prog.info? 42).map (·.size) = some k.cs.size := by rw [k.sz]; kernel_rfl
abbrev SpAt (w : World) (g : Nat) (s : Sp) : Prop := At w g 44 s.cells
abbrev YkAt (w : World) (g : Nat) (k : Yk) : Prop := At w g 42 k.cs
abbrev VtAt (w : World) (g : Nat) (x : Vt) : Prop := At w g 82 x.cells
section
variable {w w' : World} {g off : Nat} {s : Sp} {x : Vt}
theorem rng_at {t : TypeId} {l : List Value} (h : At w g t l.toArray) : w.rangeAt g 0 l := fun j u hu => by
 rw [At.cell h, Nat.zero_add]; simpa using hu
theorem rng_app {w : World} {a b : List Value} {n : Nat} (hn : a.length = n) (h : w.rangeAt g off (a ++ b)) : w.rangeAt g off a ∧ w.rangeAt g (off + n) b := by
 refine ⟨fun j u hu => h j u (by rw [List.getElem?_append_left (List.getElem?_eq_some_iff.1 hu).1]; exact hu), fun j u hu => ?_⟩
 have := h (n + j) u (by rw [List.getElem?_append_right (by omega), hn, Nat.add_sub_cancel_left]; exact hu)
 rwa [← Nat.add_assoc] at this
theorem rng_head {w : World} {a : Value} {b : List Value} (h : w.rangeAt g off (a :: b)) : w.cell? ⟨g, off, none⟩ = some a ∧ w.rangeAt g (off + 1) b := by
 refine ⟨h 0 a rfl, fun j u hu => ?_⟩
 have := h (j + 1) u (by simpa using hu)
 rwa [Nat.add_comm j 1, ← Nat.add_assoc] at this
theorem Sp.bk (h : w.rangeAt g off s.list) : w.rangeAt g off (s.b.cells s.o s.p).toList := (rng_app (n := 29) (by rw [Array.length_toList]; exact s.b.size s.o s.p) h).1
theorem Sp.ky (h : w.rangeAt g off s.list) : w.rangeAt g (off + 29) s.k.cs.toList := (rng_app (n := 21) (by rw [Array.length_toList]; exact s.k.sz) (rng_app (n := 29) (by rw [Array.length_toList]; exact s.b.size s.o s.p) h).2).1
theorem Sp.kt (h : w.rangeAt g off s.list) : w.cell? ⟨g, off + 50, none⟩ = some (.int .i64 s.t) :=
 (rng_head (rng_app (n := 21) (by rw [Array.length_toList]; exact s.k.sz) (rng_app (n := 29) (by rw [Array.length_toList]; exact s.b.size s.o s.p) h).2).2).1
theorem SpAt.rng (h : SpAt w g s) : w.rangeAt g 0 s.list := rng_at h
theorem VtAt.rng (h : VtAt w g x) : w.rangeAt g 0 x.s.list := (rng_app x.s.len (rng_at h)).1
theorem VtAt.tl (h : VtAt w g x) : w.rangeAt g 51 [x.v, .int .i64 x.n, .int .i64 x.m] := by have := (rng_app x.s.len (rng_at h)).2; rwa [Nat.zero_add] at this
theorem VtAt.k50 (h : VtAt w g x) : w.cell? ⟨g, 50, none⟩ = some (.int .i64 x.s.t) := by have := Sp.kt (VtAt.rng h); rwa [Nat.zero_add] at this
theorem VtAt.k51 (h : VtAt w g x) : w.cell? ⟨g, 51, none⟩ = some x.v := (rng_head (VtAt.tl h)).1
theorem VtAt.k52 (h : VtAt w g x) : w.cell? ⟨g, 52, none⟩ = some (.int .i64 x.n) := (rng_head (rng_head (VtAt.tl h)).2).1
theorem VtAt.k53 (h : VtAt w g x) : w.cell? ⟨g, 53, none⟩ = some (.int .i64 x.m) := (rng_head (rng_head (rng_head (VtAt.tl h)).2).2).1
theorem set_app (a : List Value) (u : Value) (b : List Value) (v : Value) {n : Nat} (hn : a.length = n) : (a ++ u :: b).toArray.setIfInBounds n v = (a ++ v :: b).toArray := by
 subst hn
 simp [List.set_append_right]
theorem VtAt.setT (h : VtAt w g x) (t : Int) : VtAt (w.setCell ⟨g, 50, none⟩ (.int .i64 t)) g { x with s := { x.s with t := t } } := by
 have := At.set h 50 (.int .i64 t)
 have e : x.cells.setIfInBounds 50 (.int .i64 t) = ({ x with s := { x.s with t := t } } : Vt).cells := by
  have h1 : ((x.s.b.cells x.s.o x.s.p).toList ++ x.s.k.cs.toList).length = 50 := by
   rw [List.length_append, Array.length_toList, Array.length_toList, x.s.b.size, x.s.k.sz]
  have h2 := set_app ((x.s.b.cells x.s.o x.s.p).toList ++ x.s.k.cs.toList) (.int .i64 x.s.t) [x.v, .int .i64 x.n, .int .i64 x.m] (.int .i64 t) h1
  simp only [Vt.cells, Vt.list, Sp.list, List.append_assoc, List.singleton_append] at h2 ⊢
  exact h2
 rwa [e] at this
theorem VtAt.setV (h : VtAt w g x) (v : Value) : VtAt (w.setCell ⟨g, 51, none⟩ v) g { x with v := v } := by
 have := At.set h 51 v
 rwa [show x.cells.setIfInBounds 51 v = ({ x with v := v } : Vt).cells from set_app x.s.list x.v [.int .i64 x.n, .int .i64 x.m] v x.s.len] at this
theorem VtAt.setN (h : VtAt w g x) (n : Int) : VtAt (w.setCell ⟨g, 52, none⟩ (.int .i64 n)) g { x with n := n } := by
 have := At.set h 52 (.int .i64 n)
 have e := set_app (x.s.list ++ [x.v]) (.int .i64 x.n) [.int .i64 x.m] (.int .i64 n) (n := 52) (by rw [List.length_append, x.s.len]; rfl)
 rw [List.append_assoc, List.append_assoc] at e
 rwa [show x.cells.setIfInBounds 52 (.int .i64 n) = ({ x with n := n } : Vt).cells from e] at this
theorem VtAt.setM (h : VtAt w g x) (n : Int) : VtAt (w.setCell ⟨g, 53, none⟩ (.int .i64 n)) g { x with m := n } := by
 have := At.set h 53 (.int .i64 n)
 have e := set_app (x.s.list ++ [x.v, .int .i64 x.n]) (.int .i64 x.m) [] (.int .i64 n) (n := 53) (by rw [List.length_append, x.s.len]; rfl)
 rw [List.append_assoc, List.append_assoc] at e
 rwa [show x.cells.setIfInBounds 53 (.int .i64 n) = ({ x with m := n } : Vt).cells from e] at this
theorem At.setCells {t : TypeId} : ∀ {vs mid pre post : List Value} {w : World}, vs.length = mid.length → At w g t (pre ++ (mid ++ post)).toArray → At (w.setCells g pre.length vs) g t (pre ++ (vs ++ post)).toArray
 | [], [], pre, post, w, _, h => h
 | [], _ :: _, _, _, _, e, _ => by simp at e
 | _ :: _, [], _, _, _, e, _ => by simp at e
 | v :: vs, m :: mid, pre, post, w, e, h => by
  have h1 := At.set h pre.length v
  rw [show ((pre ++ (m :: mid ++ post)).toArray).setIfInBounds pre.length v = ((pre ++ [v]) ++ (mid ++ post)).toArray by simp [List.set_append_right]] at h1
  have h2 := At.setCells (vs := vs) (mid := mid) (pre := pre ++ [v]) (post := post) (by simpa using e) h1
  rw [World.setCells]
  have e1 : (pre ++ [v]).length = pre.length + 1 := by simp
  rw [e1] at h2
  simpa using h2
theorem there_at {t : TypeId} {cs : Array Value} (h : At w g t cs) {o n : Nat} (hn : o + n ≤ cs.size) : w.there g o n := fun j hj => by
 refine ⟨?_, At.frozen h _⟩
 rw [At.cell h, Array.getElem?_eq_getElem (by omega)]; rfl
theorem VtAt.setB (h : VtAt w g x) (b : Bk) (o p : Option Addr) : VtAt (w.setCells g 0 (b.cells o p).toList) g { x with s := { x.s with b := b, o := o, p := p } } := by
 have h1 : At w g 82 (([] : List Value) ++ ((x.s.b.cells x.s.o x.s.p).toList ++ (x.s.k.cs.toList ++ [Value.int .i64 x.s.t, x.v, .int .i64 x.n, .int .i64 x.m]))).toArray := by
  have h2 := h
  simp only [VtAt, Vt.cells, Vt.list, Sp.list, List.append_assoc, List.singleton_append, List.nil_append] at h2 ⊢
  exact h2
 have h3 := At.setCells (vs := (b.cells o p).toList) (by rw [Array.length_toList, Array.length_toList, b.size, x.s.b.size]) h1
 simp only [VtAt, Vt.cells, Vt.list, Sp.list, List.append_assoc, List.singleton_append, List.nil_append, List.length_nil] at h3 ⊢
 exact h3
theorem VtAt.setK (h : VtAt w g x) (k : Yk) : VtAt (w.setCells g 29 k.cs.toList) g { x with s := { x.s with k := k } } := by
 have h1 : At w g 82 ((x.s.b.cells x.s.o x.s.p).toList ++ (x.s.k.cs.toList ++ [Value.int .i64 x.s.t, x.v, .int .i64 x.n, .int .i64 x.m])).toArray := by
  have h2 := h
  simp only [VtAt, Vt.cells, Vt.list, Sp.list, List.append_assoc, List.singleton_append, List.nil_append] at h2 ⊢
  exact h2
 have h3 := At.setCells (vs := k.cs.toList) (by rw [Array.length_toList, Array.length_toList, k.sz, x.s.k.sz]) h1
 rw [Array.length_toList, x.s.b.size] at h3
 simp only [VtAt, Vt.cells, Vt.list, Sp.list, List.append_assoc, List.singleton_append, List.nil_append] at h3 ⊢
 exact h3
theorem chg_setCell (w : World) (g i : Nat) (u : Value) : Chg w (w.setCell ⟨g, i, none⟩ u) (fun k => k = g) := Chg.set (S := fun k => k = g) (Chg.refl w _) (fun _ => rfl) u
theorem chg_setCells (w : World) (g : Nat) : ∀ (vs : List Value) (i : Nat) (w : World), Chg w (w.setCells g i vs) (fun k => k = g)
 | [], _, w => Chg.refl w _
 | v :: vs, i, w => by
  rw [World.setCells]
  exact (chg_setCell w g i v).trans (chg_setCells w g vs (i + 1) _) (fun _ _ h => h)
end
section
variable {ρ : Operand → Value} {w : World} {x y : Tmp} {g off : Nat} {d : Option Tmp} {t : TypeId} {pos : String} {af : Array Edge} {gd : Option (Nat × Bool)}
theorem run_load_bkm {b : Bk} {o p : Option Addr} (e : ρ (.tmp x) = ptr g off) (h : w.rangeAt g off (b.cells o p).toList) :
  (execOp ρ { dst := d, op := Op.load 37 (.tmp x), type := t, pos := pos, after := af, guard := gd }).run Tryz.prog w = .ok (.value (b.V o p)) w := by
 unfold execOp
 simp only [e, Instr.loadAt, Instr.sureAddr, Sem.run_bind, Sem.run_pure, Result.andThen_ok, run_loadVar_mid (P := Tryz.prog) w g off 37 _ _ h Tryz.underlying37 rfl (size37l b o p), Array.toArray_toList]
theorem run_load_ykm {k : Yk} (e : ρ (.tmp x) = ptr g off) (h : w.rangeAt g off k.cs.toList) :
  (execOp ρ { dst := d, op := Op.load 42 (.tmp x), type := t, pos := pos, after := af, guard := gd }).run Tryz.prog w = .ok (.value k.V) w := by
 unfold execOp
 simp only [e, Instr.loadAt, Instr.sureAddr, Sem.run_bind, Sem.run_pure, Result.andThen_ok, run_loadVar_mid (P := Tryz.prog) w g off 42 _ _ h Tryz.underlying42 rfl (size42l k), Array.toArray_toList]
theorem run_load_spm {s : Sp} (e : ρ (.tmp x) = ptr g off) (h : w.rangeAt g off s.list) :
  (execOp ρ { dst := d, op := Op.load 44 (.tmp x), type := t, pos := pos, after := af, guard := gd }).run Tryz.prog w = .ok (.value s.V) w := by
 unfold execOp
 simp only [e, Instr.loadAt, Instr.sureAddr, Sem.run_bind, Sem.run_pure, Result.andThen_ok, run_loadVar_mid (P := Tryz.prog) w g off 44 _ _ h Tryz.underlying44 rfl (size44l s)]
 rfl
theorem run_store_bkm {b : Bk} {o p : Option Addr} (ht : w.there g off 29) (e1 : ρ (.tmp x) = ptr g off) (e2 : ρ (.tmp y) = b.V o p) :
  (execOp ρ { dst := d, op := Op.store 37 (.tmp x) (.tmp y), type := t, pos := pos, after := af, guard := gd }).run Tryz.prog w = .ok .skip (w.setCells g off (b.cells o p).toList) := by
 unfold execOp
 simp only [e1, e2, Instr.storeAt, Instr.sureAddr, Sem.run_bind, Sem.run_pure, Result.andThen_ok, run_storeVar_mid (P := Tryz.prog) w g off 37 _ (by rw [b.size]; exact ht) (size32 b o p) (b.one o p)]
theorem run_store_ykm {k : Yk} (ht : w.there g off 21) (e1 : ρ (.tmp x) = ptr g off) (e2 : ρ (.tmp y) = k.V) :
  (execOp ρ { dst := d, op := Op.store 42 (.tmp x) (.tmp y), type := t, pos := pos, after := af, guard := gd }).run Tryz.prog w = .ok .skip (w.setCells g off k.cs.toList) := by
 unfold execOp
 simp only [e1, e2, Instr.storeAt, Instr.sureAddr, Sem.run_bind, Sem.run_pure, Result.andThen_ok, run_storeVar_mid (P := Tryz.prog) w g off 42 _ (by rw [k.sz]; exact ht) (size42 k) k.one]
end
section
variable {ops : Array Oper} {rest : List Oper} {o : Oper} {a : Act} {w : World} {Q : Exit → Act → World → Prop}
theorem wpList_load_bkm (x : Tmp) (ho : o.op = .load 37 (.tmp x)) (hgd : Region.wanted o (yielded ops a.tmps) = true) {g off : Nat} {b : Bk} {s t : Option Addr} (e : a.eval (.tmp x) = ptr g off) (h : w.rangeAt g off (b.cells s t).toList)
  (k : wpList Tryz.prog ops Q rest (a.put o.dst (b.V s t)) w) : wpList Tryz.prog ops Q (o :: rest) a w := by
 obtain ⟨dd, op, t, pos, af, gd⟩ := o
 subst ho
 exact wpList_run hgd _ (run_load_bkm e h) k
theorem wpList_load_ykm (x : Tmp) (ho : o.op = .load 42 (.tmp x)) (hgd : Region.wanted o (yielded ops a.tmps) = true) {g off : Nat} {c : Yk} (e : a.eval (.tmp x) = ptr g off) (h : w.rangeAt g off c.cs.toList)
  (k : wpList Tryz.prog ops Q rest (a.put o.dst c.V) w) : wpList Tryz.prog ops Q (o :: rest) a w := by
 obtain ⟨dd, op, t, pos, af, gd⟩ := o
 subst ho
 exact wpList_run hgd _ (run_load_ykm e h) k
theorem wpList_load_spm (x : Tmp) (ho : o.op = .load 44 (.tmp x)) (hgd : Region.wanted o (yielded ops a.tmps) = true) {g off : Nat} {c : Sp} (e : a.eval (.tmp x) = ptr g off) (h : w.rangeAt g off c.list)
  (k : wpList Tryz.prog ops Q rest (a.put o.dst c.V) w) : wpList Tryz.prog ops Q (o :: rest) a w := by
 obtain ⟨dd, op, t, pos, af, gd⟩ := o
 subst ho
 exact wpList_run hgd _ (run_load_spm e h) k
theorem wpList_store_sp (x y : Tmp) (ho : o.op = .store 44 (.tmp x) (.tmp y)) (hgd : o.guard = none) {q : Nat} {c z : Sp} (e1 : a.eval (.tmp x) = ptr q 0) (e2 : a.eval (.tmp y) = c.V) (hq : SpAt w q z)
  (k : wpList Tryz.prog ops Q rest (a.put o.dst undef) (w.setRow q c.cells)) : wpList Tryz.prog ops Q (o :: rest) a w :=
 wpList_store_row hgd 44 (.tmp x) (.tmp y) ho q c.cells e1 e2 44 z.cells hq (size44 c) (by rw [z.size, c.size]) c.one k
theorem wpList_store_spnew (x y : Tmp) (ho : o.op = .store 44 (.tmp x) (.tmp y)) (hgd : o.guard = none) {c : Sp} (e1 : a.eval (.tmp x) = ptr w.heap.size 0) (e2 : a.eval (.tmp y) = c.V)
  (k : wpList Tryz.prog ops Q rest (a.put o.dst undef) (w.alloc (.cells c.cells 44))) : wpList Tryz.prog ops Q (o :: rest) a (w.alloc (.cells Z51 44)) := by
 refine wpList_store_row hgd 44 (.tmp x) (.tmp y) ho w.heap.size c.cells e1 e2 44 Z51 (heap_alloc_new w _) (size44 c) (by rw [c.size]; rfl) c.one ?_
 rw [World.setRow_alloc_new]
 exact k
theorem wpList_build_zs (ho : o.op = .build 44 #[]) (hgd : o.guard = none) (k : wpList Tryz.prog ops Q rest (a.put o.dst zs.V) w) : wpList Tryz.prog ops Q (o :: rest) a w :=
 wpList_build_as hgd 44 #[] ho zs.cells (by kernel_rfl) k
end
theorem results_snap {fn : Func} {p : Tmp} (h : fn.results = #[.cell p 44]) {tmps : Array Value} {w : World} {g : Nat} {s : Sp} (hp : tmps.getD p undef = ptr g 0) (hg : SpAt w g s) :
  (results fn tmps).run Tryz.prog w = .ok s.V w := by
 rw [Array.getD_eq_getD_getElem?] at hp
 have l1 : (loadVar 44 ⟨g, 0, none⟩).run Tryz.prog w = .ok s.V w := run_loadVar_row w g 44 44 s.cells (0, 0) _ hg Tryz.underlying44 rfl (size44 s)
 simp [results, h, hp, asAddr, l1]
end Go.Proofs.YtplapoenhohliaaGreat
namespace Go.Proofs.YtplapoenhohliaaGreat.Sh
open Go.RowKit Go.Lib Plain
set_option linter.unusedVariables false
theorem wpQuiet_run {P : Program} {ops : Array Oper} {w : World} {Q : Act → Prop} {a : Act} {o : Oper} {rest : List Oper} (hgd : Region.wanted o (yielded ops a.tmps) = true) (v : Value)
  (hrun : ∀ n, (execOp a.eval o).run P (w.drewN n) = .ok (.value v) (w.drewN n)) (k : wpQuiet P ops (fun w' => ∃ n, w' = w.drewN n) Q rest (a.put o.dst v)) : wpQuiet P ops (fun w' => ∃ n, w' = w.drewN n) Q (o :: rest) a := by
 unfold wpQuiet
 rw [if_pos hgd]
 refine ⟨v, fun W hW => ?_, k⟩
 obtain ⟨n, rfl⟩ := hW
 unfold Oper.quietAt
 rw [hrun n]
 exact ⟨rfl, rfl⟩
theorem wpQuiet_load_kpart {ops : Array Oper} {w : World} {Q : Act → Prop} {a : Act} {o : Oper} {rest : List Oper} (x : Tmp) (ho : o.op = .load 46 (.tmp x)) (hgd : Region.wanted o (yielded ops a.tmps) = true) {p off : Nat} {c : K} (e : a.eval (.tmp x) = YtplapoenhohliaaGreat.ptr p off) (h : ∀ n, (w.drewN n).rangeAt p off c.cells.toList)
  (k : wpQuiet Tryz.prog ops (fun w' => ∃ n, w' = w.drewN n) Q rest (a.put o.dst c.V)) : wpQuiet Tryz.prog ops (fun w' => ∃ n, w' = w.drewN n) Q (o :: rest) a := by
 refine wpQuiet_run hgd c.V (fun n => ?_) k
 unfold execOp
 simp only [ho, e, Instr.loadAt, Instr.sureAddr, Sem.run_bind, Sem.run_pure, Result.andThen_ok, run_loadVar_mid (P := Tryz.prog) (w.drewN n) p off 46 c.cells.toList _ (h n) Tryz.underlying46 rfl (size26 c), Array.toArray_toList]
theorem wpQuiet_eql_k {ops : Array Oper} {w : World} {Q : Act → Prop} {a : Act} {o : Oper} {rest : List Oper} (x y : Tmp) (t2 : TypeId) (ho : o.op = .binOp .eql 46 (.tmp x) (.tmp y) t2) (hgd : Region.wanted o (yielded ops a.tmps) = true) {c d : K} (e1 : a.eval (.tmp x) = c.V) (e2 : a.eval (.tmp y) = d.V) {b : Bool} (hb : c.beq d = b)
  (k : wpQuiet Tryz.prog ops (fun w' => ∃ n, w' = w.drewN n) Q rest (a.put o.dst (.bool b))) : wpQuiet Tryz.prog ops (fun w' => ∃ n, w' = w.drewN n) Q (o :: rest) a := by
 obtain ⟨dd, op, t, pos, af, gd⟩ := o
 subst ho
 subst hb
 exact wpQuiet_run hgd _ (fun n => run_eql26 e1 e2) k
section
variable {w w' : World} {v u : Value} {l : List KV} {room : Nat}
set_option maxRecDepth 100000 in
set_option maxHeartbeats 1600000 in
theorem same_any {p q : Nat} {x y : KV} (hp : PAt w p x) (hq : PAt w q y) : Calls Tryz.prog 97 #[ptr p, ptr q] w fun e w' => e = .returned (.bool (decide (x = y))) ∧ Below w.heap.size w w' := by
 have c0 := hp.c0; have d0 := hq.c0
 have HV1 := Lib.hid (fun n => (hp.keep (below_drewN (Below.refl _ _) n) hp.lt).val)
 have HV2 := Lib.hid (fun n => (hq.keep (below_drewN (Below.refl _ _) n) hq.lt).val)
 have CC := Lib.hid (fun n => compare_any x.1 y.1 (w.drewN n))
 have HB0 := Lib.hid (Below.refl w.heap.size w)
 by_cases hk : x.1 = y.1
 ·rw [show side x.1 y.1 = 0 by rw [hk]; exact side_eq _] at CC
  have hd : decide (x = y) = x.2.beq y.2 := by
   by_cases h2 : x.2 = y.2
   ·rw [decide_eq_true (Prod.ext hk h2), h2, K.beq_self]
   ·rw [decide_eq_false (fun e => h2 (by rw [e])), K.beq_ne h2]
  rw [hd]
  clear hp hq hk hd
  go_enter Tryz.func97, Tryz.ntmps97
  go_wp2_with fail
  refine wp_region_quiet_lit (by kernel_rfl) (by kernel_rfl) ?_
  repeat (first
   | ((with_reducible apply wpQuiet_load_kpart (c := x.2) (h := HV1.out)); exact rfl; exact rfl; exact rfl)
   | ((with_reducible apply wpQuiet_load_kpart (c := y.2) (h := HV2.out)); exact rfl; exact rfl; exact rfl)
   | ((with_reducible apply wpQuiet_eql_k (c := x.2) (d := y.2) (hb := rfl)); exact rfl; exact rfl; exact rfl; exact rfl)
   | quiet_step ((go_at_call 103; (with_reducible exact quietR (CC.out _)))))
  refine wpQuiet_nil ?_
  intro _ hw'
  obtain ⟨nq, hw''⟩ := hw'
  subst hw''
  go_wp2_with fail
  go_ret
  exact ⟨rfl, below_drewN HB0.out _⟩
 ·have hs : ∃ s : Int, side x.1 y.1 = s ∧ (s == 0) = false := by
   rcases side_cases x.1 y.1 with ⟨_, e⟩ | ⟨h, _⟩ | ⟨_, e⟩
   ·exact ⟨-1, e, rfl⟩
   ·exact absurd h hk
   ·exact ⟨1, e, rfl⟩
  obtain ⟨s, hs, h0⟩ := hs
  rw [hs] at CC
  have hd : decide (x = y) = false := decide_eq_false (fun e => hk (by rw [e]))
  rw [hd]
  clear hp hq hk hd hs
  go_enter Tryz.func97, Tryz.ntmps97
  go_wp2_with fail
  go_quiet ((go_at_call 103; (with_reducible exact quietR (CC.out _))))
  go_wp2_with fail
  go_ret
  exact ⟨rfl, below_drewN HB0.out _⟩
def sameTo (xs ys : List KV) (j : Nat) : Prop := ∀ i, i < j → xs[i]? = ys[i]?
set_option maxRecDepth 100000 in
set_option maxHeartbeats 1600000 in
theorem eqf_any {ps qs : List (Nat × KV)} (hu : Rd eP w u (ps.map (·.1))) (hv : Rd eP w v (qs.map (·.1))) (hp : ∀ y ∈ ps, PAt w y.1 y.2) (hq : ∀ y ∈ qs, PAt w y.1 y.2) (hn : ps.length ≤ 70000) (hn2 : qs.length ≤ 70000) :
  Calls Tryz.prog 96 #[u, v, .func (.func 97) #[] #[]] w fun e w' => e = .returned (.bool (decide (ps.map (·.2) = qs.map (·.2)))) ∧ Below w.heap.size w w' := by
 obtain ⟨O, cu, rfl, hcu, _⟩ := id hu
 obtain ⟨Q, cv, rfl, hcv, _⟩ := id hv
 rw [List.length_map] at hu hv hcu hcv ⊢
 rw [List.length_map]
 by_cases hl : ps.length = qs.length
 ·have HU := Lib.hid hu; have HV := Lib.hid hv; have HP := Lib.hid hp; have HQ := Lib.hid hq; have HL := Lib.hid hl; have HN := Lib.hid hn
  clear hu hv hp hq hcu hcv hn hn2
  rw [hl]
  obtain ⟨n, hnn⟩ : ∃ n, qs.length = n := ⟨_, rfl⟩
  rw [hl, hnn] at HN; rw [hl, hnn] at HU; rw [hnn] at HV; rw [hnn] at HL
  rw [hnn]
  have HNN := Lib.hid hnn
  clear hl hnn
  go_enter Tryz.func96, Tryz.ntmps96
  go_wp2_with fail
  go_loopg [17] n (fun gh s17 wx => ∃ j : Nat, j ≤ n ∧ gh = n - j ∧ s17 = .int .i64 (j : Int) ∧ Below w.heap.size w wx ∧ sameTo (ps.map (·.2)) (qs.map (·.2)) j)
  case atStart => exact ⟨0, Nat.zero_le _, rfl, rfl, Below.refl _ _, fun i hi => absurd hi (by omega)⟩
  case round =>
   obtain ⟨j, hj, hg, rfl, hb, hsm⟩ := hrel
   have HG := Lib.hid hg; have HB := Lib.hid hb; have HS := Lib.hid hsm; clear hg hb hsm
   by_cases hlt : j < n
   ·have h1 : j < ps.length := by rw [HL.out]; exact hlt
    have h2 : j < qs.length := by rw [HNN.out]; exact hlt
    have e1 : ps[j]? = some ps[j] := List.getElem?_eq_getElem h1
    have e2 : qs[j]? = some qs[j] := List.getElem?_eq_getElem h2
    obtain ⟨b1, o1, rfl, l1, k1⟩ := HU.out.cellP (i := j) (p := ps[j].1) (by rw [List.getElem?_map, e1]; rfl)
    obtain ⟨b2, o2, rfl, l2, k2⟩ := HV.out.cellP (i := j) (p := qs[j].1) (by rw [List.getElem?_map, e2]; rfl)
    have m1 : wr.cell? ⟨b1, o1 + j, none⟩ = some (ptr ps[j].1) := by rw [HB.out.cell (p := ⟨b1, o1 + j, none⟩) l1]; exact k1
    have m2 : wr.cell? ⟨b2, o2 + j, none⟩ = some (ptr qs[j].1) := by rw [HB.out.cell (p := ⟨b2, o2 + j, none⟩) l2]; exact k2
    have CS := Lib.hid (same_any ((HP.out _ (List.getElem_mem h1)).step HB.out) ((HQ.out _ (List.getElem_mem h2)).step HB.out))
    have f1 : (ps.map (·.2))[j]? = some ps[j].2 := by rw [List.getElem?_map, e1]; rfl
    have f2 : (qs.map (·.2))[j]? = some qs[j].2 := by rw [List.getElem?_map, e2]; rfl
    have F1 := Lib.hid f1; have F2 := Lib.hid f2
    generalize ps[j] = x at *
    generalize qs[j] = y at *
    clear k1 k2 l1 l2 e1 e2 f1 f2 h1 h2
    have b3 : (j : Int) < (n : Int) := by omega
    have b4 : (0 : Int) ≤ (j : Int) := by omega
    by_cases hxy : x.2 = y.2
    ·rw [decide_eq_true hxy] at CS
     have HXY := Lib.hid hxy; clear hxy
     go_wp2_with (first | (go_at_call 97; (with_reducible refine CS.out.mono ?_); rintro e w4 ⟨rfl, hb4⟩))
     go_roundg (n - (j + 1))
     case measure => have := HG.out; omega
     case rel => exact ⟨j + 1, by omega, rfl, (by have := HN.out; rw [IntWalk.wrap64_in _ (by omega)]; rfl), HB.out.trans (hb4.mono HB.out.size), fun i hi => by
      by_cases hij : i < j
      ·exact HS.out i hij
      ·obtain rfl : i = j := by omega
       rw [F1.out, F2.out, HXY.out]⟩
    ·rw [decide_eq_false hxy] at CS
     have HXY := Lib.hid hxy; clear hxy
     go_wp2_with (first | (go_at_call 97; (with_reducible refine CS.out.mono ?_); rintro e w4 ⟨rfl, hb4⟩))
     go_ret
     refine ⟨?_, HB.out.trans (hb4.mono HB.out.size)⟩
     rw [decide_eq_false (fun e => HXY.out (by have h := F1.out; rw [e, F2.out] at h; injection h with h; exact h.symm))]
     rfl
   ·obtain rfl : j = n := by omega
    go_wp2_with fail
    go_ret
    refine ⟨?_, HB.out⟩
    have : ps.map (·.2) = qs.map (·.2) := by
     apply List.ext_getElem?
     intro i
     by_cases hi : i < j
     ·exact HS.out i hi
     ·rw [List.getElem?_eq_none (by rw [List.length_map, HL.out]; omega), List.getElem?_eq_none (by rw [List.length_map, HNN.out]; omega)]
    rw [decide_eq_true this]
    rfl
 ·have hd : decide (ps.map (·.2) = qs.map (·.2)) = false := decide_eq_false (fun e => hl (by have := congrArg List.length e; simpa using this))
  rw [hd]
  have f0 : ¬ (ps.length : Int) = (qs.length : Int) := by omega
  clear hu hv hp hq hl hd
  go_enter Tryz.func96, Tryz.ntmps96
  go_wp2_with fail
  go_ret
  exact ⟨rfl, Below.refl _ _⟩
end
end Go.Proofs.YtplapoenhohliaaGreat.Sh
namespace Go.Proofs.YtplapoenhohliaaGreat.Sh
open Go.RowKit Go.Lib Plain
set_option linter.unusedVariables false
set_option maxHeartbeats 400000 in
theorem equal1_idle (a : Nat) (w : World) :
  CallsD Tryz.prog 95 #[ptr a] .returning w fun e u' w' => e = .returned (.tuple #[]) ∧ u' = .returning ∧ w' = w := by
 refine callsD_of_wpS Tryz.func95 rfl fun c₀ cs hu => ?_
 apply wpS_seq
 apply wpS_region
 simp [wpOpsS, go_sem, recoverD, hu, Tryz.ntmps95, Exit.thenS]
 refine wpS_cond (t := false) (by simp [Act.eval, Array.replicate]) ?_
 simp only [Bool.false_eq_true, if_false]
 refine wpS_of_wp (wp_skip ?_)
 cases c₀
 simp_all [bodyPostS, results, Tryz.results95]
section
variable {w w' : World} {v u : Value} {l m : List KV} {room : Nat}
abbrev eqW (w : World) (o1 o2 : Option Addr) (n1 r1 n2 r2 : Nat) : World :=
 ((w.alloc (.cells #[.pointer o1, .int .i64 (n1 : Int), .int .i64 (r1 : Int)] 34)).alloc (.cells #[.pointer o2, .int .i64 (n2 : Int), .int .i64 (r2 : Int)] 34)).alloc (.cells #[.bool false] 4)
set_option maxRecDepth 100000 in
set_option maxHeartbeats 3200000 in
theorem equal_ne {o1 o2 : Option Addr} {n1 n2 r1 r2 : Nat} (hr : r1 ≠ r2) :
  Calls Tryz.prog 80 #[.agg #[.pointer o1, .int .i64 (n1 : Int), .int .i64 (r1 : Int)], .agg #[.pointer o2, .int .i64 (n2 : Int), .int .i64 (r2 : Int)]] w fun e w' => e = .returned (.bool false) ∧ Below w.heap.size w w' := by
 have hmf : ∀ (fn : Fn) (first cap : Array Value) (w : World), (Instr.makeFunc fn first cap).run Tryz.prog w = .ok (.func fn first cap) w := fun _ _ _ _ => rfl
 have f0 : ((r1 : Int) == (r2 : Int)) = false := beq_eq_false_iff_ne.2 (by omega)
 have f1 : ¬ r1 = r2 := hr
 clear hr
 go_enter_defers Tryz.func80, Tryz.ntmps80
 go_wp2_with fail
 refine wp_region_noPanic ?_
 go_region_with (fail)
 all_goals refine NoPanic.normal ?_
 all_goals go_wp2_with fail
 all_goals
  refine leaves_cons (f := 95) (args := #[ptr (w.heap.size + 1 + 1)]) (by simp) (by simp [go_sem]) ?_
  refine (equal1_idle (w.heap.size + 1 + 1) _).mono ?_
  rintro e u' w8 ⟨rfl, rfl, rfl⟩
  simp only [Leaves, settle, results, Tryz.results80]
  simp [go_sem]
  exact ((((Below.refl _ _).alloc (Nat.le_refl _) _).alloc (by simp) _).alloc (by simp; omega) _).drew
set_option maxRecDepth 100000 in
set_option maxHeartbeats 3200000 in
theorem equal_run {o1 o2 : Option Addr} {n1 n2 r : Nat} {ps qs : List Nat} {R : Bool}
  (ca : ∀ W, Below (w.heap.size + 3) (eqW w o1 o2 n1 r n2 r) W → Calls Tryz.prog 89 #[.agg #[.pointer o1, .int .i64 (n1 : Int), .int .i64 (r : Int)]] W (PPost W ps))
  (cb : ∀ W, Below (w.heap.size + 3) (eqW w o1 o2 n1 r n2 r) W → Calls Tryz.prog 89 #[.agg #[.pointer o2, .int .i64 (n2 : Int), .int .i64 (r : Int)]] W (PPost W qs))
  (ce : ∀ W a b, Below (w.heap.size + 3) (eqW w o1 o2 n1 r n2 r) W → Rd eP W a ps → Rd eP W b qs → Calls Tryz.prog 96 #[a, b, .func (.func 97) #[] #[]] W fun e w' => e = .returned (.bool R) ∧ Below W.heap.size W w') :
  Calls Tryz.prog 80 #[.agg #[.pointer o1, .int .i64 (n1 : Int), .int .i64 (r : Int)], .agg #[.pointer o2, .int .i64 (n2 : Int), .int .i64 (r : Int)]] w fun e w' => e = .returned (.bool R) ∧ Below w.heap.size w w' := by
 have hmf : ∀ (fn : Fn) (first cap : Array Value) (w : World), (Instr.makeFunc fn first cap).run Tryz.prog w = .ok (.func fn first cap) w := fun _ _ _ _ => rfl
 have hb0 : Below w.heap.size w (eqW w o1 o2 n1 r n2 r) := (((Below.refl _ _).alloc (Nat.le_refl _) _).alloc (by simp) _).alloc (by simp; omega) _
 have hs0 : (eqW w o1 o2 n1 r n2 r).heap.size = w.heap.size + 3 := by simp
 have a1 : At (eqW w o1 o2 n1 r n2 r) w.heap.size 34 #[.pointer o1, .int .i64 (n1 : Int), .int .i64 (r : Int)] := ((At.new w 34 _).alloc _).alloc _
 have a2 : At (eqW w o1 o2 n1 r n2 r) (w.heap.size + 1) 34 #[.pointer o2, .int .i64 (n2 : Int), .int .i64 (r : Int)] := by
  have := (At.new (w.alloc (.cells #[.pointer o1, .int .i64 (n1 : Int), .int .i64 (r : Int)] 34)) 34 #[.pointer o2, .int .i64 (n2 : Int), .int .i64 (r : Int)]).alloc (.cells #[.bool false] 4)
  have e : (w.alloc (.cells #[.pointer o1, .int .i64 (n1 : Int), .int .i64 (r : Int)] 34)).heap.size = w.heap.size + 1 := by simp
  rw [e] at this
  exact this
 have a3 : At (eqW w o1 o2 n1 r n2 r) (w.heap.size + 2) 4 #[.bool false] := by
  have := (At.new ((w.alloc (.cells #[.pointer o1, .int .i64 (n1 : Int), .int .i64 (r : Int)] 34)).alloc (.cells #[.pointer o2, .int .i64 (n2 : Int), .int .i64 (r : Int)] 34)) 4 #[.bool false])
  have e : ((w.alloc (.cells #[.pointer o1, .int .i64 (n1 : Int), .int .i64 (r : Int)] 34)).alloc (.cells #[.pointer o2, .int .i64 (n2 : Int), .int .i64 (r : Int)] 34)).heap.size = w.heap.size + 2 := by simp
  rw [e] at this
  exact this
 have HS := Lib.hid (fun W (hb : Below (w.heap.size + 3) (eqW w o1 o2 n1 r n2 r) W) => And.intro ((a1.below hb (by omega)).cell 0) (And.intro ((a1.below hb (by omega)).cell 1) (And.intro ((a1.below hb (by omega)).cell 2) (And.intro ((a2.below hb (by omega)).cell 0) (And.intro ((a2.below hb (by omega)).cell 1) ((a2.below hb (by omega)).cell 2))))))
 have H3 := Lib.hid (fun W (hb : Below (w.heap.size + 3) (eqW w o1 o2 n1 r n2 r) W) => a3.below hb (by omega))
 have BD := Lib.hid ((Below.refl (w.heap.size + 3) (eqW w o1 o2 n1 r n2 r)).drew)
 have HB0 := Lib.hid hb0
 have CA := Lib.hid ca; have CB := Lib.hid cb; have CE := Lib.hid ce
 have n3 : ¬ w.heap.size + 2 = w.heap.size := by omega
 clear a1 a2 a3 hb0 ca cb ce
 go_enter_defers Tryz.func80, Tryz.ntmps80
 go_wp2_with fail
 obtain ⟨w1, hw1⟩ : ∃ w1, eqW w o1 o2 n1 r n2 r = w1 := ⟨_, rfl⟩
 rw [hw1] at HS H3 BD HB0 CA CB CE hs0
 have hw2 : ((w.alloc (.cells #[.pointer o1, .int .i64 (n1 : Int), .int .i64 (r : Int)] 34)).alloc (.cells #[.pointer o2, .int .i64 (n2 : Int), .int .i64 (r : Int)] 34)).alloc (.cells #[.bool false] 4) = w1 := hw1
 rw [hw2]
 clear hw1 hw2
 have zd : w1.drew.heap.size = w1.heap.size := rfl
 go_region_held3 (fun w' => (w'.cell? ⟨w.heap.size, 0, none⟩ = some (.pointer o1) ∧ w'.cell? ⟨w.heap.size, 1, none⟩ = some (.int .i64 (n1 : Int)) ∧ w'.cell? ⟨w.heap.size, 2, none⟩ = some (.int .i64 (r : Int)) ∧ w'.cell? ⟨w.heap.size + 1, 0, none⟩ = some (.pointer o2) ∧ w'.cell? ⟨w.heap.size + 1, 1, none⟩ = some (.int .i64 (n2 : Int)) ∧ w'.cell? ⟨w.heap.size + 1, 2, none⟩ = some (.int .i64 (r : Int))))
  (first | exact HS.out _ BD.out | exact HS.out _ be | exact HS.out _ ba | exact HS.out _ bb | go_keep | fail)
  (first
   | (go_at_call 89; (with_reducible refine (CA.out _ bb).mono ?_); rintro e wa ⟨sa, rfl, oa, da⟩; have ba := bb.trans (da.mono (by have := bb.size; omega)); have ra := oa.rd; have rb := rb.below da; have la := ba)
   | (go_at_call 89; (with_reducible refine (CA.out _ BD.out).mono ?_); rintro e wa ⟨sa, rfl, oa, da⟩; have ba := BD.out.trans (da.mono (by omega)); have ra := oa.rd)
   | (go_at_call 89; (with_reducible refine (CB.out _ ba).mono ?_); rintro e wb ⟨sb, rfl, ob, db⟩; have bb := ba.trans (db.mono (by have := ba.size; omega)); have rb := ob.rd; have ra := ra.below db; have la := bb)
   | (go_at_call 89; (with_reducible refine (CB.out _ BD.out).mono ?_); rintro e wb ⟨sb, rfl, ob, db⟩; have bb := BD.out.trans (db.mono (by omega)); have rb := ob.rd)
   | (go_at_call 96; (with_reducible refine (CE.out _ _ _ la ra rb).mono ?_); rintro e we ⟨rfl, de⟩; have be := la.trans (de.mono (by have := la.size; omega)); have a4 := H3.out _ be; have d0 : we.cell? ⟨w.heap.size + 2, 0, none⟩ = some (.bool false) := (by rw [a4.cell]; rfl); have y0 := a4.frozen 0)
   | fail)
 all_goals go_wp2_with fail
 all_goals
  have hat : At (we.setCell ⟨w.heap.size + 1 + 1, 0, none⟩ (.bool R)) (w.heap.size + 1 + 1) 4 #[.bool R] := by simpa using At.set a4 0 (.bool R)
  have hc : (we.setCell ⟨w.heap.size + 1 + 1, 0, none⟩ (.bool R)).cell? ⟨w.heap.size + 1 + 1, 0, none⟩ = some (.bool R) := by rw [hat.cell]; rfl
  have hbf : Below w.heap.size w (we.setCell ⟨w.heap.size + 1 + 1, 0, none⟩ (.bool R)) := (HB0.out.trans (be.mono (by omega))).setCell (by simp; omega) _
  have HBF := Lib.hid hbf
  clear hbf hat a4 d0 y0
  generalize we.setCell ⟨w.heap.size + 1 + 1, 0, none⟩ (.bool R) = w6 at *
  refine leaves_cons (f := 95) (args := #[ptr (w.heap.size + 1 + 1)]) (by simp) (by simp [go_sem]) ?_
  refine (equal1_idle (w.heap.size + 1 + 1) _).mono ?_
  rintro e u' w8 ⟨rfl, rfl, rfl⟩
  simp only [Leaves, settle, results, Tryz.results80]
  simp [go_sem, hc]
  exact HBF.out
theorem len_its (t : T) : t.its.length = t.kvs.length := (T.kvs_length t).symm
theorem equal_any {r1 r2 : Nat} (hv : SAt w v l r1) (hu : SAt w u m r2) : Calls Tryz.prog 80 #[v, u] w fun e w' => e = .returned (.bool (decide (r1 = r2 ∧ l = m))) ∧ Below w.heap.size w w' := by
 obtain ⟨vt, t, rfl, ht, rfl, hr, h1, h2⟩ := hv
 obtain ⟨o, rfl⟩ := ht.ptr
 obtain ⟨ut, s, rfl, hs, rfl, hr2, h3, h4⟩ := hu
 obtain ⟨p, rfl⟩ := hs.ptr
 by_cases hroom : r1 = r2
 ·subst hroom
  have hb0 : Below w.heap.size w (eqW w o p t.kvs.length r1 s.kvs.length r1) := (((Below.refl _ _).alloc (Nat.le_refl _) _).alloc (by simp) _).alloc (by simp; omega) _
  have step : ∀ W, Below (w.heap.size + 3) (eqW w o p t.kvs.length r1 s.kvs.length r1) W → Below w.heap.size w W := fun W hb => hb0.trans (hb.mono (by omega))
  have e : decide (r1 = r1 ∧ t.kvs = s.kvs) = decide (t.its.map (·.2) = s.its.map (·.2)) := by simp [T.kvs]
  rw [e]
  refine equal_run (ps := t.its.map (·.1)) (qs := s.its.map (·.1)) (fun W hb => pairs_any (ht.step (step W hb)) (by omega)) (fun W hb => pairs_any (hs.step (step W hb)) (by omega)) (fun W a b hb ha hb2 => ?_)
  exact eqf_any ha hb2 (fun y hy => (ht.its_at y hy).2.step (step W hb)) (fun y hy => (hs.its_at y hy).2.step (step W hb)) (by rw [len_its]; omega) (by rw [len_its]; omega)
 ·rw [decide_eq_false (fun h => hroom h.1)]
  exact equal_ne hroom
end
end Go.Proofs.YtplapoenhohliaaGreat.Sh
