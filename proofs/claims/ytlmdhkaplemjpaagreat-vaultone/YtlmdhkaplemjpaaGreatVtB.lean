/- A snap, a vault: as plain things, and where they lie. -/
import Derived.Test.YtlmdhkaplemjpaaGreatBkB
import Derived.Test.YtlmdhkaplemjpaaGreatBkK
import Derived.Deep.MidRow
namespace Go.Proofs.YtlmdhkaplemjpaaGreat
open Go.RowKit Go.Lib
set_option linter.unusedVariables false
set_option linter.unusedSimpArgs false

/-- the keys: cells, whatever they are -/
structure Yk where
  cs : Array Value
  sz : cs.size = 21
  one : cs.all (·.oneCell') = true
abbrev Yk.V (k : Yk) : Value := .agg k.cs
abbrev Z21 : Array Value := #[.int .i64 0, .int .i64 0, .int .i64 0, .int .i64 0, .int .i64 0, .int .i64 0, .int .i64 0, .int .i64 0, .int .i64 0, .int .i64 0, .int .i64 0, .int .i64 0, .int .i64 0, .int .i64 0, .int .i64 0, .int .i64 0, .int .i64 0, .int .u32 0, .pointer none, .int .i64 0, .int .i64 0]
def zy : Yk := ⟨Z21, rfl, by simp [Value.oneCell']⟩
/-- a snap: a book and where its shelves lie, keys, a tick -/
structure Sp where
  b : Bk
  o : Option Addr
  p : Option Addr
  k : Yk
  t : Int
def Sp.list (s : Sp) : List Value := (s.b.cells s.o s.p).toList ++ (s.k.cs.toList ++ [.int .i64 s.t])
def Sp.cells (s : Sp) : Array Value := s.list.toArray
abbrev Sp.V (s : Sp) : Value := .agg s.cells
def zs : Sp := ⟨zb, none, none, zy, 0⟩
abbrev Z51 : Array Value := #[.int .i64 0, .int .i64 0, .int .i64 0, .int .i64 0, .int .i64 0, .int .i64 0, .int .i64 0, .int .i64 0, .int .i64 0, .int .i64 0, .int .i64 0, .int .i64 0, .int .i64 0, .int .i64 0, .int .i64 0, .int .i64 0, .int .i64 0, .int .u32 0, .int .i64 0, .pointer none, .int .i64 0, .int .i64 0, .pointer none, .int .i64 0, .int .i64 0, .int .i64 0, .int .i64 0, .int .i64 0, .int .i64 0,
  .int .i64 0, .int .i64 0, .int .i64 0, .int .i64 0, .int .i64 0, .int .i64 0, .int .i64 0, .int .i64 0, .int .i64 0, .int .i64 0, .int .i64 0, .int .i64 0, .int .i64 0, .int .i64 0, .int .i64 0, .int .i64 0, .int .i64 0, .int .u32 0, .pointer none, .int .i64 0, .int .i64 0, .int .i64 0]
theorem zs_cells : zs.cells = Z51 := rfl
/-- a vault: the snap as it is now, the slice of its changes, how often it was tried, how often in vain -/
structure Vt where
  s : Sp
  v : Value
  n : Int
  m : Int
def Vt.list (x : Vt) : List Value := x.s.list ++ [x.v, .int .i64 x.n, .int .i64 x.m]
def Vt.cells (x : Vt) : Array Value := x.list.toArray
abbrev Vt.V (x : Vt) : Value := .agg x.cells
theorem oneC {α : Type} {P : α → Bool} {a : Array α} (h : a.all P = true) : ∀ u ∈ a.toList, P u = true := fun u hu => (Array.all_eq_true_iff_forall_mem.1 h) u (by simpa using hu)
theorem Sp.len (s : Sp) : s.list.length = 51 := by
  have h1 : (s.b.cells s.o s.p).toList.length = 29 := by rw [Array.length_toList]; exact s.b.size s.o s.p
  have h2 : s.k.cs.toList.length = 21 := by rw [Array.length_toList]; exact s.k.sz
  simp only [Sp.list, List.length_append, h1, h2, List.length_cons, List.length_nil]
theorem Sp.size (s : Sp) : s.cells.size = 51 := by simp [Sp.cells, s.len]
theorem Sp.oneL (s : Sp) : ∀ u ∈ s.list, u.oneCell' = true := fun u hu => by
  simp only [Sp.list, List.mem_append] at hu
  rcases hu with h | h | h
  · exact oneC (s.b.one s.o s.p) u h
  · exact oneC s.k.one u h
  · have : u = .int .i64 s.t := by simpa using h
    subst this; rfl
theorem Sp.one (s : Sp) : s.cells.all (·.oneCell') = true := all_oneCell_toArray s.oneL
theorem Vt.len (x : Vt) : x.list.length = 54 := by simp [Vt.list, x.s.len]
theorem Vt.size (x : Vt) : x.cells.size = 54 := by simp [Vt.cells, x.len]
theorem size44 (s : Sp) : (Tryz.prog.info? 44).map (·.size) = some s.cells.size := by rw [s.size]; kernel_rfl
theorem size44l (s : Sp) : (Tryz.prog.info? 44).map (·.size) = some s.list.length := by rw [s.len]; kernel_rfl
theorem size37l (b : Bk) (o p : Option Addr) : (Tryz.prog.info? 37).map (·.size) = some (b.cells o p).toList.length := by rw [Array.length_toList, b.size]; kernel_rfl
theorem size42l (k : Yk) : (Tryz.prog.info? 42).map (·.size) = some k.cs.toList.length := by rw [Array.length_toList, k.sz]; kernel_rfl
theorem size42 (k : Yk) : (Tryz.prog.info? 42).map (·.size) = some k.cs.size := by rw [k.sz]; kernel_rfl
theorem size87 (x : Vt) : (Tryz.prog.info? 87).map (·.size) = some x.cells.size := by rw [x.size]; kernel_rfl
abbrev SpAt (w : World) (g : Nat) (s : Sp) : Prop := At w g 44 s.cells
abbrev YkAt (w : World) (g : Nat) (k : Yk) : Prop := At w g 42 k.cs
abbrev VtAt (w : World) (g : Nat) (x : Vt) : Prop := At w g 87 x.cells
section
variable {w w' : World} {g off : Nat} {s : Sp} {x : Vt}
theorem rng_at {t : TypeId} {l : List Value} (h : At w g t l.toArray) : w.rangeAt g 0 l := fun j u hu => by
  rw [At.cell h, Nat.zero_add]; simpa using hu
theorem rng_app {w : World} {a b : List Value} {n : Nat} (hn : a.length = n) (h : w.rangeAt g off (a ++ b)) : w.rangeAt g off a ∧ w.rangeAt g (off + n) b := by
  refine ⟨fun j u hu => h j u (by rw [List.getElem?_append_left (List.getElem?_eq_some_iff.1 hu).1]; exact hu), fun j u hu => ?_⟩
  have := h (n + j) u (by rw [List.getElem?_append_right (by omega), hn, Nat.add_sub_cancel_left]; exact hu)
  rwa [← Nat.add_assoc] at this
theorem rng_head {w : World} {a : Value} {b : List Value} (h : w.rangeAt g off (a :: b)) : w.cell? ⟨g, off, none⟩ = some a ∧ w.rangeAt g (off + 1) b := by
  refine ⟨h 0 a rfl, fun j u hu => ?_⟩
  have := h (j + 1) u (by simpa using hu)
  rwa [Nat.add_comm j 1, ← Nat.add_assoc] at this
/-- a snap's parts -/
theorem Sp.bk (h : w.rangeAt g off s.list) : w.rangeAt g off (s.b.cells s.o s.p).toList := (rng_app (n := 29) (by rw [Array.length_toList]; exact s.b.size s.o s.p) h).1
theorem Sp.ky (h : w.rangeAt g off s.list) : w.rangeAt g (off + 29) s.k.cs.toList := (rng_app (n := 21) (by rw [Array.length_toList]; exact s.k.sz) (rng_app (n := 29) (by rw [Array.length_toList]; exact s.b.size s.o s.p) h).2).1
theorem Sp.kt (h : w.rangeAt g off s.list) : w.cell? ⟨g, off + 50, none⟩ = some (.int .i64 s.t) :=
  (rng_head (rng_app (n := 21) (by rw [Array.length_toList]; exact s.k.sz) (rng_app (n := 29) (by rw [Array.length_toList]; exact s.b.size s.o s.p) h).2).2).1
theorem Bk.kix {w : World} {b : Bk} {o p : Option Addr} (h : w.rangeAt g off (b.cells o p).toList) : w.cell? ⟨g, off + 18, none⟩ = some (.int .i64 b.ix) := h 18 _ (by simpa using b.at18 o p)
theorem SpAt.rng (h : SpAt w g s) : w.rangeAt g 0 s.list := rng_at h
theorem VtAt.rng (h : VtAt w g x) : w.rangeAt g 0 x.s.list := (rng_app x.s.len (rng_at h)).1
theorem VtAt.tl (h : VtAt w g x) : w.rangeAt g 51 [x.v, .int .i64 x.n, .int .i64 x.m] := by have := (rng_app x.s.len (rng_at h)).2; rwa [Nat.zero_add] at this
theorem VtAt.k50 (h : VtAt w g x) : w.cell? ⟨g, 50, none⟩ = some (.int .i64 x.s.t) := by have := Sp.kt (VtAt.rng h); rwa [Nat.zero_add] at this
theorem VtAt.k51 (h : VtAt w g x) : w.cell? ⟨g, 51, none⟩ = some x.v := (rng_head (VtAt.tl h)).1
theorem VtAt.k52 (h : VtAt w g x) : w.cell? ⟨g, 52, none⟩ = some (.int .i64 x.n) := (rng_head (rng_head (VtAt.tl h)).2).1
theorem VtAt.k53 (h : VtAt w g x) : w.cell? ⟨g, 53, none⟩ = some (.int .i64 x.m) := (rng_head (rng_head (rng_head (VtAt.tl h)).2).2).1
theorem set_app (a : List Value) (u : Value) (b : List Value) (v : Value) {n : Nat} (hn : a.length = n) : (a ++ u :: b).toArray.setIfInBounds n v = (a ++ v :: b).toArray := by
  subst hn
  simp [List.set_append_right]
theorem VtAt.setT (h : VtAt w g x) (t : Int) : VtAt (w.setCell ⟨g, 50, none⟩ (.int .i64 t)) g { x with s := { x.s with t := t } } := by
  have := At.set h 50 (.int .i64 t)
  have e : x.cells.setIfInBounds 50 (.int .i64 t) = ({ x with s := { x.s with t := t } } : Vt).cells := by
    have h1 : ((x.s.b.cells x.s.o x.s.p).toList ++ x.s.k.cs.toList).length = 50 := by
      rw [List.length_append, Array.length_toList, Array.length_toList, x.s.b.size, x.s.k.sz]
    have h2 := set_app ((x.s.b.cells x.s.o x.s.p).toList ++ x.s.k.cs.toList) (.int .i64 x.s.t) [x.v, .int .i64 x.n, .int .i64 x.m] (.int .i64 t) h1
    simp only [Vt.cells, Vt.list, Sp.list, List.append_assoc, List.singleton_append] at h2 ⊢
    exact h2
  rwa [e] at this
theorem VtAt.setV (h : VtAt w g x) (v : Value) : VtAt (w.setCell ⟨g, 51, none⟩ v) g { x with v := v } := by
  have := At.set h 51 v
  rwa [show x.cells.setIfInBounds 51 v = ({ x with v := v } : Vt).cells from set_app x.s.list x.v [.int .i64 x.n, .int .i64 x.m] v x.s.len] at this
theorem VtAt.setN (h : VtAt w g x) (n : Int) : VtAt (w.setCell ⟨g, 52, none⟩ (.int .i64 n)) g { x with n := n } := by
  have := At.set h 52 (.int .i64 n)
  have e := set_app (x.s.list ++ [x.v]) (.int .i64 x.n) [.int .i64 x.m] (.int .i64 n) (n := 52) (by rw [List.length_append, x.s.len]; rfl)
  rw [List.append_assoc, List.append_assoc] at e
  rwa [show x.cells.setIfInBounds 52 (.int .i64 n) = ({ x with n := n } : Vt).cells from e] at this
theorem VtAt.setM (h : VtAt w g x) (n : Int) : VtAt (w.setCell ⟨g, 53, none⟩ (.int .i64 n)) g { x with m := n } := by
  have := At.set h 53 (.int .i64 n)
  have e := set_app (x.s.list ++ [x.v, .int .i64 x.n]) (.int .i64 x.m) [] (.int .i64 n) (n := 53) (by rw [List.length_append, x.s.len]; rfl)
  rw [List.append_assoc, List.append_assoc] at e
  rwa [show x.cells.setIfInBounds 53 (.int .i64 n) = ({ x with m := n } : Vt).cells from e] at this
/-- many cells stored within a block -/
theorem At.setCells {t : TypeId} : ∀ {vs mid pre post : List Value} {w : World}, vs.length = mid.length → At w g t (pre ++ (mid ++ post)).toArray → At (w.setCells g pre.length vs) g t (pre ++ (vs ++ post)).toArray
  | [], [], pre, post, w, _, h => h
  | [], _ :: _, _, _, _, e, _ => by simp at e
  | _ :: _, [], _, _, _, e, _ => by simp at e
  | v :: vs, m :: mid, pre, post, w, e, h => by
    have h1 := At.set h pre.length v
    rw [show ((pre ++ (m :: mid ++ post)).toArray).setIfInBounds pre.length v = ((pre ++ [v]) ++ (mid ++ post)).toArray by simp [List.set_append_right]] at h1
    have h2 := At.setCells (vs := vs) (mid := mid) (pre := pre ++ [v]) (post := post) (by simpa using e) h1
    rw [World.setCells]
    have e1 : (pre ++ [v]).length = pre.length + 1 := by simp
    rw [e1] at h2
    simpa using h2
theorem there_at {t : TypeId} {cs : Array Value} (h : At w g t cs) {o n : Nat} (hn : o + n ≤ cs.size) : w.there g o n := fun j hj => by
  refine ⟨?_, At.frozen h _⟩
  rw [At.cell h, Array.getElem?_eq_getElem (by omega)]; rfl
theorem VtAt.setB (h : VtAt w g x) (b : Bk) (o p : Option Addr) : VtAt (w.setCells g 0 (b.cells o p).toList) g { x with s := { x.s with b := b, o := o, p := p } } := by
  have h1 : At w g 87 (([] : List Value) ++ ((x.s.b.cells x.s.o x.s.p).toList ++ (x.s.k.cs.toList ++ [Value.int .i64 x.s.t, x.v, .int .i64 x.n, .int .i64 x.m]))).toArray := by
    have h2 := h
    simp only [VtAt, Vt.cells, Vt.list, Sp.list, List.append_assoc, List.singleton_append, List.nil_append] at h2 ⊢
    exact h2
  have h3 := At.setCells (vs := (b.cells o p).toList) (by rw [Array.length_toList, Array.length_toList, b.size, x.s.b.size]) h1
  simp only [VtAt, Vt.cells, Vt.list, Sp.list, List.append_assoc, List.singleton_append, List.nil_append, List.length_nil] at h3 ⊢
  exact h3
theorem VtAt.setK (h : VtAt w g x) (k : Yk) : VtAt (w.setCells g 29 k.cs.toList) g { x with s := { x.s with k := k } } := by
  have h1 : At w g 87 ((x.s.b.cells x.s.o x.s.p).toList ++ (x.s.k.cs.toList ++ [Value.int .i64 x.s.t, x.v, .int .i64 x.n, .int .i64 x.m])).toArray := by
    have h2 := h
    simp only [VtAt, Vt.cells, Vt.list, Sp.list, List.append_assoc, List.singleton_append, List.nil_append] at h2 ⊢
    exact h2
  have h3 := At.setCells (vs := k.cs.toList) (by rw [Array.length_toList, Array.length_toList, k.sz, x.s.k.sz]) h1
  rw [Array.length_toList, x.s.b.size] at h3
  simp only [VtAt, Vt.cells, Vt.list, Sp.list, List.append_assoc, List.singleton_append, List.nil_append] at h3 ⊢
  exact h3
theorem chg_setCell (w : World) (g i : Nat) (u : Value) : Chg w (w.setCell ⟨g, i, none⟩ u) (fun k => k = g) := Chg.set (S := fun k => k = g) (Chg.refl w _) (fun _ => rfl) u
theorem chg_setCells (w : World) (g : Nat) : ∀ (vs : List Value) (i : Nat) (w : World), Chg w (w.setCells g i vs) (fun k => k = g)
  | [], _, w => Chg.refl w _
  | v :: vs, i, w => by
    rw [World.setCells]
    exact (chg_setCell w g i v).trans (chg_setCells w g vs (i + 1) _) (fun _ _ h => h)
end
section
variable {ρ : Operand → Value} {w : World} {x y : Tmp} {g off : Nat} {d : Option Tmp} {t : TypeId} {pos : String} {af : Array Edge} {gd : Option (Nat × Bool)}
theorem run_load_bkm {b : Bk} {o p : Option Addr} (e : ρ (.tmp x) = ptr g off) (h : w.rangeAt g off (b.cells o p).toList) :
    (execOp ρ { dst := d, op := Op.load 37 (.tmp x), type := t, pos := pos, after := af, guard := gd }).run Tryz.prog w = .ok (.value (b.V o p)) w := by
  unfold execOp
  simp only [e, Instr.loadAt, Instr.sureAddr, Sem.run_bind, Sem.run_pure, Result.andThen_ok, run_loadVar_mid (P := Tryz.prog) w g off 37 _ _ h Tryz.underlying37 rfl (size37l b o p), Array.toArray_toList]
theorem run_load_ykm {k : Yk} (e : ρ (.tmp x) = ptr g off) (h : w.rangeAt g off k.cs.toList) :
    (execOp ρ { dst := d, op := Op.load 42 (.tmp x), type := t, pos := pos, after := af, guard := gd }).run Tryz.prog w = .ok (.value k.V) w := by
  unfold execOp
  simp only [e, Instr.loadAt, Instr.sureAddr, Sem.run_bind, Sem.run_pure, Result.andThen_ok, run_loadVar_mid (P := Tryz.prog) w g off 42 _ _ h Tryz.underlying42 rfl (size42l k), Array.toArray_toList]
theorem run_load_spm {s : Sp} (e : ρ (.tmp x) = ptr g off) (h : w.rangeAt g off s.list) :
    (execOp ρ { dst := d, op := Op.load 44 (.tmp x), type := t, pos := pos, after := af, guard := gd }).run Tryz.prog w = .ok (.value s.V) w := by
  unfold execOp
  simp only [e, Instr.loadAt, Instr.sureAddr, Sem.run_bind, Sem.run_pure, Result.andThen_ok, run_loadVar_mid (P := Tryz.prog) w g off 44 _ _ h Tryz.underlying44 rfl (size44l s)]
  rfl
theorem run_store_bkm {b : Bk} {o p : Option Addr} (ht : w.there g off 29) (e1 : ρ (.tmp x) = ptr g off) (e2 : ρ (.tmp y) = b.V o p) :
    (execOp ρ { dst := d, op := Op.store 37 (.tmp x) (.tmp y), type := t, pos := pos, after := af, guard := gd }).run Tryz.prog w = .ok .skip (w.setCells g off (b.cells o p).toList) := by
  unfold execOp
  simp only [e1, e2, Instr.storeAt, Instr.sureAddr, Sem.run_bind, Sem.run_pure, Result.andThen_ok, run_storeVar_mid (P := Tryz.prog) w g off 37 _ (by rw [b.size]; exact ht) (size32 b o p) (b.one o p)]
theorem run_store_ykm {k : Yk} (ht : w.there g off 21) (e1 : ρ (.tmp x) = ptr g off) (e2 : ρ (.tmp y) = k.V) :
    (execOp ρ { dst := d, op := Op.store 42 (.tmp x) (.tmp y), type := t, pos := pos, after := af, guard := gd }).run Tryz.prog w = .ok .skip (w.setCells g off k.cs.toList) := by
  unfold execOp
  simp only [e1, e2, Instr.storeAt, Instr.sureAddr, Sem.run_bind, Sem.run_pure, Result.andThen_ok, run_storeVar_mid (P := Tryz.prog) w g off 42 _ (by rw [k.sz]; exact ht) (size42 k) k.one]
end
section
variable {ops : Array Oper} {rest : List Oper} {o : Oper} {a : Act} {w : World} {Q : Exit → Act → World → Prop}
theorem wpList_load_bkm (x : Tmp) (ho : o.op = .load 37 (.tmp x)) (hgd : Region.wanted o (yielded ops a.tmps) = true) {g off : Nat} {b : Bk} {s t : Option Addr} (e : a.eval (.tmp x) = ptr g off) (h : w.rangeAt g off (b.cells s t).toList)
    (k : wpList Tryz.prog ops Q rest (a.put o.dst (b.V s t)) w) : wpList Tryz.prog ops Q (o :: rest) a w := by
  obtain ⟨dd, op, t, pos, af, gd⟩ := o
  subst ho
  exact wpList_run hgd _ (run_load_bkm e h) k
theorem wpList_load_ykm (x : Tmp) (ho : o.op = .load 42 (.tmp x)) (hgd : Region.wanted o (yielded ops a.tmps) = true) {g off : Nat} {c : Yk} (e : a.eval (.tmp x) = ptr g off) (h : w.rangeAt g off c.cs.toList)
    (k : wpList Tryz.prog ops Q rest (a.put o.dst c.V) w) : wpList Tryz.prog ops Q (o :: rest) a w := by
  obtain ⟨dd, op, t, pos, af, gd⟩ := o
  subst ho
  exact wpList_run hgd _ (run_load_ykm e h) k
theorem wpList_load_spm (x : Tmp) (ho : o.op = .load 44 (.tmp x)) (hgd : Region.wanted o (yielded ops a.tmps) = true) {g off : Nat} {c : Sp} (e : a.eval (.tmp x) = ptr g off) (h : w.rangeAt g off c.list)
    (k : wpList Tryz.prog ops Q rest (a.put o.dst c.V) w) : wpList Tryz.prog ops Q (o :: rest) a w := by
  obtain ⟨dd, op, t, pos, af, gd⟩ := o
  subst ho
  exact wpList_run hgd _ (run_load_spm e h) k
theorem wpList_store_sp (x y : Tmp) (ho : o.op = .store 44 (.tmp x) (.tmp y)) (hgd : o.guard = none) {q : Nat} {c z : Sp} (e1 : a.eval (.tmp x) = ptr q 0) (e2 : a.eval (.tmp y) = c.V) (hq : SpAt w q z)
    (k : wpList Tryz.prog ops Q rest (a.put o.dst undef) (w.setRow q c.cells)) : wpList Tryz.prog ops Q (o :: rest) a w :=
  wpList_store_row hgd 44 (.tmp x) (.tmp y) ho q c.cells e1 e2 44 z.cells hq (size44 c) (by rw [z.size, c.size]) c.one k
theorem wpList_store_spnew (x y : Tmp) (ho : o.op = .store 44 (.tmp x) (.tmp y)) (hgd : o.guard = none) {c : Sp} (e1 : a.eval (.tmp x) = ptr w.heap.size 0) (e2 : a.eval (.tmp y) = c.V)
    (k : wpList Tryz.prog ops Q rest (a.put o.dst undef) (w.alloc (.cells c.cells 44))) : wpList Tryz.prog ops Q (o :: rest) a (w.alloc (.cells Z51 44)) := by
  refine wpList_store_row hgd 44 (.tmp x) (.tmp y) ho w.heap.size c.cells e1 e2 44 Z51 (heap_alloc_new w _) (size44 c) (by rw [c.size]; rfl) c.one ?_
  rw [World.setRow_alloc_new]
  exact k
theorem wpList_build_zs (ho : o.op = .build 44 #[]) (hgd : o.guard = none) (k : wpList Tryz.prog ops Q rest (a.put o.dst zs.V) w) : wpList Tryz.prog ops Q (o :: rest) a w :=
  wpList_build_as hgd 44 #[] ho zs.cells (by kernel_rfl) k
end
/-- results: a snap in a cell -/
theorem results_snap {fn : Func} {p : Tmp} (h : fn.results = #[.cell p 44]) {tmps : Array Value} {w : World} {g : Nat} {s : Sp} (hp : tmps.getD p undef = ptr g 0) (hg : SpAt w g s) :
    (results fn tmps).run Tryz.prog w = .ok s.V w := by
  rw [Array.getD_eq_getD_getElem?] at hp
  have l1 : (loadVar 44 ⟨g, 0, none⟩).run Tryz.prog w = .ok s.V w := run_loadVar_row w g 44 44 s.cells (0, 0) _ hg Tryz.underlying44 rfl (size44 s)
  simp [results, h, hp, asAddr, l1]
end Go.Proofs.YtlmdhkaplemjpaaGreat
