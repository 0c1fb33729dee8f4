import Derived.Test.YtplapoenhohliaaGreatStD
import Derived.Test.YtplapoenhohliaaGreatMay
namespace Go.Proofs.YtplapoenhohliaaGreat
open Go.RowKit Go.Lib
open Sh.Plain (KV get put del Rise)
set_option linter.unusedVariables false
set_option linter.unusedSimpArgs false
structure Bk where
 c : Cfg
 ix : Int
 live : List KV
 done : List KV
 rm : Nat
 m : List Int
 ml : m.length = 4
abbrev sv (o : Option Addr) (n r : Nat) : Value := .agg #[.pointer o, .int .i64 (n : Int), .int .i64 (r : Int)]
def Bk.tail (b : Bk) (o p : Option Addr) : List Value := [.int .u32 b.c.s, .int .i64 b.ix, .pointer o, .int .i64 (b.live.length : Int), .int .i64 (b.rm : Int), .pointer p, .int .i64 (b.done.length : Int), .int .i64 (b.rm : Int)] ++ b.m.map (Value.int .i64)
def Bk.cells (b : Bk) (o p : Option Addr) : Array Value := (b.c.n.map (Value.int .i64) ++ b.tail o p).toArray
abbrev Bk.V (b : Bk) (o p : Option Addr) : Value := .agg (b.cells o p)
def zb : Bk := ⟨zc, 0, [], [], 0, [0, 0, 0, 0], rfl⟩
abbrev Z29 : Array Value := #[.int .i64 0, .int .i64 0, .int .i64 0, .int .i64 0, .int .i64 0, .int .i64 0, .int .i64 0, .int .i64 0, .int .i64 0, .int .i64 0, .int .i64 0, .int .i64 0, .int .i64 0, .int .i64 0, .int .i64 0, .int .i64 0, .int .i64 0, .int .u32 0, .int .i64 0, .pointer none, .int .i64 0, .int .i64 0, .pointer none, .int .i64 0, .int .i64 0, .int .i64 0, .int .i64 0, .int .i64 0, .int .i64 0]
section
variable (b : Bk) (o p : Option Addr)
theorem Bk.tail_len : (b.tail o p).length = 12 := by simp [Bk.tail, b.ml]
theorem Bk.size : (b.cells o p).size = 29 := by simp [Bk.cells, b.c.len, b.tail_len]
theorem Bk.one : (b.cells o p).all (·.oneCell') = true := by
 refine Array.all_eq_true_iff_forall_mem.2 fun v hv => ?_
 simp [Bk.cells, Bk.tail] at hv
 rcases hv with ⟨a, _, rfl⟩ | rfl | rfl | rfl | rfl | rfl | rfl | rfl | rfl | ⟨a, _, rfl⟩ <;> rfl
theorem Bk.at_tail (k : Nat) : (b.cells o p)[17 + k]? = (b.tail o p)[k]? := by
 have h : ¬ 17 + k < (b.c.n.map (Value.int .i64)).length := by rw [List.length_map, b.c.len]; omega
 simp only [Bk.cells, List.getElem?_toArray, List.getElem?_append, if_neg h]
 rw [List.length_map, b.c.len, Nat.add_sub_cancel_left]
theorem Bk.at18 : (b.cells o p)[18]? = some (.int .i64 b.ix) := b.at_tail o p 1
theorem Bk.at19 : (b.cells o p)[19]? = some (.pointer o) := b.at_tail o p 2
theorem Bk.at20 : (b.cells o p)[20]? = some (.int .i64 (b.live.length : Int)) := b.at_tail o p 3
theorem Bk.at21 : (b.cells o p)[21]? = some (.int .i64 (b.rm : Int)) := b.at_tail o p 4
theorem Bk.at22 : (b.cells o p)[22]? = some (.pointer p) := b.at_tail o p 5
theorem Bk.at23 : (b.cells o p)[23]? = some (.int .i64 (b.done.length : Int)) := b.at_tail o p 6
theorem Bk.at24 : (b.cells o p)[24]? = some (.int .i64 (b.rm : Int)) := b.at_tail o p 7
theorem Bk.atM {i : Nat} (h : i < 4) : (b.cells o p)[25 + i]? = some (.int .i64 (b.m.getD i 0)) := by
 have e := b.at_tail o p (8 + i)
 rw [show 17 + (8 + i) = 25 + i by omega] at e
 rw [e]
 have hl : i < b.m.length := by rw [b.ml]; exact h
 simp only [Bk.tail, List.getElem?_append]
 rw [if_neg (by simp), show 8 + i - List.length _ = i from by simp]
 simp [hl]
theorem Bk.conf (j : Nat) (u : Value) (h : b.c.cells[j]? = some u) : (b.cells o p)[0 + j]? = some u := by
 rw [Nat.zero_add]
 have hj : j < 18 := by have := (Array.getElem?_eq_some_iff.1 h).1; rwa [b.c.size] at this
 by_cases h17 : j < 17
 ·have hl : j < b.c.n.length := by rw [b.c.len]; exact h17
  simp only [Cfg.cells, List.getElem?_toArray] at h
  simp only [Bk.cells, List.getElem?_toArray]
  rw [List.getElem?_append_left (by rw [List.length_map]; exact hl)] at h ⊢
  exact h
 ·obtain rfl : j = 17 := by omega
  rw [b.c.atS] at h
  rw [← h]
  exact b.at_tail o p 0
theorem Bk.set_tail (k : Nat) (v : Value) : (b.cells o p).setIfInBounds (17 + k) v = (b.c.n.map (Value.int .i64) ++ (b.tail o p).set k v).toArray := by
 simp only [Bk.cells, List.setIfInBounds_toArray]
 rw [List.set_append_right _ _ (by rw [List.length_map, b.c.len]; omega), List.length_map, b.c.len, Nat.add_sub_cancel_left]
theorem Bk.set_ix (n : Int) : (b.cells o p).setIfInBounds 18 (.int .i64 n) = ({ b with ix := n } : Bk).cells o p := b.set_tail o p 1 _
theorem Bk.set_m {i : Nat} (h : i < 4) (n : Int) : (b.cells o p).setIfInBounds (25 + i) (.int .i64 n) = ({ b with m := b.m.set i n, ml := by rw [List.length_set]; exact b.ml } : Bk).cells o p := by
 have e := b.set_tail o p (8 + i) (.int .i64 n)
 rw [show 17 + (8 + i) = 25 + i by omega] at e
 rw [e]
 simp only [Bk.cells, Bk.tail]
 rw [List.set_append_right _ _ (by simp), show 8 + i - List.length _ = i from by simp, List.map_set]
theorem Bk.set_live (l : List KV) (o' : Option Addr) : (((b.cells o p).setIfInBounds 19 (.pointer o')).setIfInBounds 20 (.int .i64 (l.length : Int))).setIfInBounds 21 (.int .i64 (b.rm : Int)) = ({ b with live := l } : Bk).cells o' p := by
 simp only [Bk.cells, List.setIfInBounds_toArray]
 rw [List.set_append_right _ _ (by rw [List.length_map, b.c.len]; omega), List.length_map, b.c.len]
 rw [List.set_append_right _ _ (by rw [List.length_map, b.c.len]; omega), List.length_map, b.c.len]
 rw [List.set_append_right _ _ (by rw [List.length_map, b.c.len]; omega), List.length_map, b.c.len]
 rfl
theorem Bk.set_done (l : List KV) (o' : Option Addr) : (((b.cells o p).setIfInBounds 22 (.pointer o')).setIfInBounds 23 (.int .i64 (l.length : Int))).setIfInBounds 24 (.int .i64 (b.rm : Int)) = ({ b with done := l } : Bk).cells o o' := by
 simp only [Bk.cells, List.setIfInBounds_toArray]
 rw [List.set_append_right _ _ (by rw [List.length_map, b.c.len]; omega), List.length_map, b.c.len]
 rw [List.set_append_right _ _ (by rw [List.length_map, b.c.len]; omega), List.length_map, b.c.len]
 rw [List.set_append_right _ _ (by rw [List.length_map, b.c.len]; omega), List.length_map, b.c.len]
 rfl
theorem size32 : (Tryz.prog.info? 37).map (·.size) = some (b.cells o p).size := by rw [b.size]; kernel_rfl
end
def BAt (w : World) (b : Bk) (o p : Option Addr) : Prop := Sh.SAt w (sv o b.live.length b.rm) b.live b.rm ∧ Sh.SAt w (sv p b.done.length b.rm) b.done b.rm
abbrev BkAt (w : World) (g : Nat) (b : Bk) (o p : Option Addr) : Prop := At w g 37 (b.cells o p)
theorem BAt.step {w w' : World} {b : Bk} {o p : Option Addr} (h : BAt w b o p) (hb : Below w.heap.size w w') : BAt w' b o p := ⟨h.1.step hb, h.2.step hb⟩
theorem At.step {w w' : World} {g : Nat} {t : TypeId} {cs : Array Value} (h : At w g t cs) (hb : Below w.heap.size w w') : At w' g t cs := At.below h hb (At.lt h)
theorem BAt.zero (w : World) : BAt w zb none none := ⟨Sh.sat_nil w 0 (by omega), Sh.sat_nil w 0 (by omega)⟩
section
variable {w w' : World} {g : Nat} {b : Bk} {o p : Option Addr}
theorem BkAt.k18 (h : BkAt w g b o p) : w.cell? ⟨g, 18, none⟩ = some (.int .i64 b.ix) := by rw [At.cell h, b.at18]
theorem BkAt.k19 (h : BkAt w g b o p) : w.cell? ⟨g, 19, none⟩ = some (.pointer o) := by rw [At.cell h, b.at19]
theorem BkAt.k20 (h : BkAt w g b o p) : w.cell? ⟨g, 20, none⟩ = some (.int .i64 (b.live.length : Int)) := by rw [At.cell h, b.at20]
theorem BkAt.k21 (h : BkAt w g b o p) : w.cell? ⟨g, 21, none⟩ = some (.int .i64 (b.rm : Int)) := by rw [At.cell h, b.at21]
theorem BkAt.k22 (h : BkAt w g b o p) : w.cell? ⟨g, 22, none⟩ = some (.pointer p) := by rw [At.cell h, b.at22]
theorem BkAt.k23 (h : BkAt w g b o p) : w.cell? ⟨g, 23, none⟩ = some (.int .i64 (b.done.length : Int)) := by rw [At.cell h, b.at23]
theorem BkAt.k24 (h : BkAt w g b o p) : w.cell? ⟨g, 24, none⟩ = some (.int .i64 (b.rm : Int)) := by rw [At.cell h, b.at24]
theorem BkAt.kM (h : BkAt w g b o p) {i : Nat} (hi : i < 4) : w.cell? ⟨g, 25 + i, none⟩ = some (.int .i64 (b.m.getD i 0)) := by rw [At.cell h, b.atM o p hi]
theorem BkAt.kc (h : BkAt w g b o p) : w.rangeAt g 0 b.c.cells.toList := fun j u hu => by
 rw [At.cell h]; exact b.conf o p j u (by simpa using hu)
theorem BkAt.setI (h : BkAt w g b o p) (n : Int) : BkAt (w.setCell ⟨g, 18, none⟩ (.int .i64 n)) g { b with ix := n } o p := by
 have := At.set h 18 (.int .i64 n)
 rwa [b.set_ix] at this
theorem BkAt.setM (h : BkAt w g b o p) {i : Nat} (hi : i < 4) (n : Int) : BkAt (w.setCell ⟨g, 25 + i, none⟩ (.int .i64 n)) g { b with m := b.m.set i n, ml := by rw [List.length_set]; exact b.ml } o p := by
 have := At.set h (25 + i) (.int .i64 n)
 rwa [b.set_m o p hi] at this
theorem BkAt.setL (h : BkAt w g b o p) (l : List KV) (o' : Option Addr) : BkAt (((w.setCell ⟨g, 19, none⟩ (.pointer o')).setCell ⟨g, 20, none⟩ (.int .i64 (l.length : Int))).setCell ⟨g, 21, none⟩ (.int .i64 (b.rm : Int))) g { b with live := l } o' p := by
 have := At.set (At.set (At.set h 19 (.pointer o')) 20 (.int .i64 (l.length : Int))) 21 (.int .i64 (b.rm : Int))
 rwa [b.set_live o p] at this
theorem BkAt.setD (h : BkAt w g b o p) (l : List KV) (o' : Option Addr) : BkAt (((w.setCell ⟨g, 22, none⟩ (.pointer o')).setCell ⟨g, 23, none⟩ (.int .i64 (l.length : Int))).setCell ⟨g, 24, none⟩ (.int .i64 (b.rm : Int))) g { b with done := l } o o' := by
 have := At.set (At.set (At.set h 22 (.pointer o')) 23 (.int .i64 (l.length : Int))) 24 (.int .i64 (b.rm : Int))
 rwa [b.set_done o p] at this
end
structure Cg where
 ix : Int
 k : K
 car : Int
 mode : Int
def Cg.cells (x : Cg) : Array Value := #[.int .i64 x.ix, .int .i64 x.k.id, .int .i64 x.k.kind, .int .i64 x.k.frm, .int .i64 x.k.dto, .int .i64 x.k.car, .int .i64 x.k.st, .int .i64 x.k.own, .int .i64 x.k.born, .int .i64 x.car, .int .i64 x.mode]
abbrev Cg.V (x : Cg) : Value := .agg x.cells
def zg : Cg := ⟨0, zk, 0, 0⟩
abbrev Z11 : Array Value := #[.int .i64 0, .int .i64 0, .int .i64 0, .int .i64 0, .int .i64 0, .int .i64 0, .int .i64 0, .int .i64 0, .int .i64 0, .int .i64 0, .int .i64 0]
theorem Cg.size (x : Cg) : x.cells.size = 11 := rfl
theorem Cg.one (x : Cg) : x.cells.all (·.oneCell') = true := by simp [Cg.cells, Value.oneCell']
theorem size39 (x : Cg) : (Tryz.prog.info? 48).map (·.size) = some x.cells.size := by rw [x.size]; kernel_rfl
abbrev CgAt (w : World) (g : Nat) (x : Cg) : Prop := At w g 48 x.cells
section
variable {w w' : World} {g : Nat} {x : Cg}
theorem CgAt.k0 (h : CgAt w g x) : w.cell? ⟨g, 0, none⟩ = some (.int .i64 x.ix) := by rw [At.cell h]; rfl
theorem CgAt.k1 (h : CgAt w g x) : w.cell? ⟨g, 1, none⟩ = some (.int .i64 x.k.id) := by rw [At.cell h]; rfl
theorem CgAt.k7 (h : CgAt w g x) : w.cell? ⟨g, 7, none⟩ = some (.int .i64 x.k.own) := by rw [At.cell h]; rfl
theorem CgAt.k8 (h : CgAt w g x) : w.cell? ⟨g, 8, none⟩ = some (.int .i64 x.k.born) := by rw [At.cell h]; rfl
theorem CgAt.k9 (h : CgAt w g x) : w.cell? ⟨g, 9, none⟩ = some (.int .i64 x.car) := by rw [At.cell h]; rfl
theorem CgAt.k10 (h : CgAt w g x) : w.cell? ⟨g, 10, none⟩ = some (.int .i64 x.mode) := by rw [At.cell h]; rfl
theorem CgAt.kk (h : CgAt w g x) : w.rangeAt g 1 x.k.cells.toList := fun j u hu => by
 rw [At.cell h]
 have hu' : x.k.cells[j]? = some u := by simpa using hu
 have hj : j < 8 := (Array.getElem?_eq_some_iff.1 hu').1
 match j, hj with
 | 0, _ => exact hu'
 | 1, _ => exact hu'
 | 2, _ => exact hu'
 | 3, _ => exact hu'
 | 4, _ => exact hu'
 | 5, _ => exact hu'
 | 6, _ => exact hu'
 | 7, _ => exact hu'
theorem CgAt.setI (h : CgAt w g x) (n : Int) : CgAt (w.setCell ⟨g, 0, none⟩ (.int .i64 n)) g { x with ix := n } := At.set h 0 _
end
theorem At.farRow {w : World} {g q : Nat} {t : TypeId} {cs ds : Array Value} (h : At w g t cs) (hne : g ≠ q) : At (w.setRow q ds) g t cs := by
 unfold At at h ⊢
 unfold World.setRow
 simp only [Array.getElem?_modify]
 rw [if_neg (Ne.symm hne)]
 exact h
theorem At.setRow {w : World} {q : Nat} {t : TypeId} {cs : Array Value} (h : At w q t cs) (ds : Array Value) : At (w.setRow q ds) q t ds := setRow_heap w q cs ds t (0, 0) h
theorem TAt.farRow {w : World} {B q : Nat} {e : TypeId} {cs ds : Array Value} (ha : At w q e cs) (h1 : e ≠ 137) (h2 : e ≠ 119) : ∀ {t : Sh.Plain.T} {v : Value}, Sh.TAt w B v t → Sh.TAt (w.setRow q ds) B v t
 | .nil, _, h => h
 | .node l p x r, v, h => by
  obtain ⟨g, vl, vr, rfl, hg, hp, hn, hx, hl, hr⟩ := h
  exact ⟨g, vl, vr, rfl, hg, hp, At.farRow hn (At.ne hn ha (Ne.symm h1)), At.farRow hx (At.ne hx ha (Ne.symm h2)), TAt.farRow ha h1 h2 hl, TAt.farRow ha h1 h2 hr⟩
theorem size_setRow' (w : World) (q : Nat) (cs : Array Value) : (w.setRow q cs).heap.size = w.heap.size := by simp [World.setRow]
theorem SAt.farRow {w : World} {q : Nat} {e : TypeId} {cs ds : Array Value} (ha : At w q e cs) (h1 : e ≠ 137) (h2 : e ≠ 119) {v : Value} {l : List KV} {room : Nat} (h : Sh.SAt w v l room) : Sh.SAt (w.setRow q ds) v l room := by
 obtain ⟨vt, t, rfl, h3, h4⟩ := h
 exact ⟨vt, t, rfl, by rw [size_setRow']; exact TAt.farRow ha h1 h2 h3, h4⟩
theorem SAt.far {w : World} {q i : Nat} {e : TypeId} {cs : Array Value} {u : Value} (ha : At w q e cs) (h1 : e ≠ 137) (h2 : e ≠ 119) {v : Value} {l : List KV} {room : Nat} (h : Sh.SAt w v l room) : Sh.SAt (w.setCell ⟨q, i, none⟩ u) v l room := by
 obtain ⟨vt, t, rfl, h3, h4⟩ := h
 exact ⟨vt, t, rfl, by rw [Sh.size_set]; exact Sh.TAt.far ha h1 h2 h3, h4⟩
theorem BAt.farRow {w : World} {q : Nat} {e : TypeId} {cs ds : Array Value} {b : Bk} {o p : Option Addr} (h : BAt w b o p) (ha : At w q e cs) (h1 : e ≠ 137) (h2 : e ≠ 119) : BAt (w.setRow q ds) b o p := ⟨SAt.farRow ha h1 h2 h.1, SAt.farRow ha h1 h2 h.2⟩
theorem BAt.far {w : World} {q i : Nat} {e : TypeId} {cs : Array Value} {u : Value} {b : Bk} {o p : Option Addr} (h : BAt w b o p) (ha : At w q e cs) (h1 : e ≠ 137) (h2 : e ≠ 119) : BAt (w.setCell ⟨q, i, none⟩ u) b o p := ⟨SAt.far ha h1 h2 h.1, SAt.far ha h1 h2 h.2⟩
section
variable {ops : Array Oper} {rest : List Oper} {o : Oper} {a : Act} {w : World} {Q : Exit → Act → World → Prop}
theorem wpList_load_bk (x : Tmp) (ho : o.op = .load 37 (.tmp x)) (hgd : Region.wanted o (yielded ops a.tmps) = true) {g : Nat} {b : Bk} {s t : Option Addr} (e : a.eval (.tmp x) = ptr g 0) (h : BkAt w g b s t)
  (k : wpList Tryz.prog ops Q rest (a.put o.dst (b.V s t)) w) : wpList Tryz.prog ops Q (o :: rest) a w :=
 wpList_load_rowG hgd 37 (.tmp x) ho g e 37 (b.cells s t) (0, 0) _ h Tryz.underlying37 rfl (size32 b s t) k
theorem wpList_load_cg (x : Tmp) (ho : o.op = .load 48 (.tmp x)) (hgd : Region.wanted o (yielded ops a.tmps) = true) {g : Nat} {c : Cg} (e : a.eval (.tmp x) = ptr g 0) (h : CgAt w g c)
  (k : wpList Tryz.prog ops Q rest (a.put o.dst c.V) w) : wpList Tryz.prog ops Q (o :: rest) a w :=
 wpList_load_rowG hgd 48 (.tmp x) ho g e 48 c.cells (0, 0) _ h Tryz.underlying48 rfl (size39 c) k
theorem wpList_store_bk (x y : Tmp) (ho : o.op = .store 37 (.tmp x) (.tmp y)) (hgd : o.guard = none) {q : Nat} {b z : Bk} {s t s' t' : Option Addr} (e1 : a.eval (.tmp x) = ptr q 0) (e2 : a.eval (.tmp y) = b.V s t) (hq : BkAt w q z s' t')
  (k : wpList Tryz.prog ops Q rest (a.put o.dst undef) (w.setRow q (b.cells s t))) : wpList Tryz.prog ops Q (o :: rest) a w :=
 wpList_store_row hgd 37 (.tmp x) (.tmp y) ho q (b.cells s t) e1 e2 37 (z.cells s' t') hq (size32 b s t) (by rw [z.size, b.size]) (b.one s t) k
theorem wpList_store_cg (x y : Tmp) (ho : o.op = .store 48 (.tmp x) (.tmp y)) (hgd : o.guard = none) {q : Nat} {c z : Cg} (e1 : a.eval (.tmp x) = ptr q 0) (e2 : a.eval (.tmp y) = c.V) (hq : CgAt w q z)
  (k : wpList Tryz.prog ops Q rest (a.put o.dst undef) (w.setRow q c.cells)) : wpList Tryz.prog ops Q (o :: rest) a w :=
 wpList_store_row hgd 48 (.tmp x) (.tmp y) ho q c.cells e1 e2 48 z.cells hq (size39 c) (by rw [z.size, c.size]) c.one k
theorem wpList_build_zb (ho : o.op = .build 37 #[]) (hgd : o.guard = none) (k : wpList Tryz.prog ops Q rest (a.put o.dst (zb.V none none)) w) : wpList Tryz.prog ops Q (o :: rest) a w :=
 wpList_build_as hgd 37 #[] ho (zb.cells none none) (by kernel_rfl) k
theorem wpList_build_zg (ho : o.op = .build 48 #[]) (hgd : o.guard = none) (k : wpList Tryz.prog ops Q rest (a.put o.dst zg.V) w) : wpList Tryz.prog ops Q (o :: rest) a w :=
 wpList_build_as hgd 48 #[] ho zg.cells (by kernel_rfl) k
theorem built_k (k : K) : Tryz.prog.built 48 [(1, k.V)] = some (⟨0, k, 0, 0⟩ : Cg).cells := by kernel_rfl
theorem wpList_build_ck (y : Tmp) (ho : o.op = .build 48 #[(1, .tmp y)]) (hgd : o.guard = none) {c : K} (e : a.eval (.tmp y) = c.V) (k : wpList Tryz.prog ops Q rest (a.put o.dst (⟨0, c, 0, 0⟩ : Cg).V) w) : wpList Tryz.prog ops Q (o :: rest) a w :=
 wpList_build_as hgd 48 _ ho (⟨0, c, 0, 0⟩ : Cg).cells (by simp only [List.map_toArray, List.map_cons, List.map_nil, e]; exact built_k c) k
end
theorem results_three {fn : Func} {p q r : Tmp} (h : fn.results = #[.cell p 37, .cell q 48, .tmp r]) {tmps : Array Value} {w : World} {g s : Nat} {b : Bk} {o1 o2 : Option Addr} {x : Cg} {v : Value} (hp : tmps.getD p undef = ptr g 0) (hq : tmps.getD q undef = ptr s 0) (hr : tmps.getD r undef = v) (hg : BkAt w g b o1 o2) (hs : CgAt w s x) :
  (results fn tmps).run Tryz.prog w = .ok (.tuple #[b.V o1 o2, x.V, v]) w := by
 rw [Array.getD_eq_getD_getElem?] at hp hq hr
 have l1 : (loadVar 37 ⟨g, 0, none⟩).run Tryz.prog w = .ok (b.V o1 o2) w := run_loadVar_row w g 37 37 (b.cells o1 o2) (0, 0) _ hg Tryz.underlying37 rfl (size32 b o1 o2)
 have l2 : (loadVar 48 ⟨s, 0, none⟩).run Tryz.prog w = .ok x.V w := run_loadVar_row w s 48 48 x.cells (0, 0) _ hs Tryz.underlying48 rfl (size39 x)
 simp [results, h, hp, hq, hr, asAddr, l1, l2]
theorem results_two {fn : Func} {p r : Tmp} (h : fn.results = #[.cell p 37, .tmp r]) {tmps : Array Value} {w : World} {g : Nat} {b : Bk} {o1 o2 : Option Addr} {v : Value} (hp : tmps.getD p undef = ptr g 0) (hr : tmps.getD r undef = v) (hg : BkAt w g b o1 o2) :
  (results fn tmps).run Tryz.prog w = .ok (.tuple #[b.V o1 o2, v]) w := by
 rw [Array.getD_eq_getD_getElem?] at hp hr
 have l1 : (loadVar 37 ⟨g, 0, none⟩).run Tryz.prog w = .ok (b.V o1 o2) w := run_loadVar_row w g 37 37 (b.cells o1 o2) (0, 0) _ hg Tryz.underlying37 rfl (size32 b o1 o2)
 simp [results, h, hp, hr, asAddr, l1]
theorem results_one {fn : Func} {p : Tmp} (h : fn.results = #[.cell p 37]) {tmps : Array Value} {w : World} {g : Nat} {b : Bk} {o1 o2 : Option Addr} (hp : tmps.getD p undef = ptr g 0) (hg : BkAt w g b o1 o2) :
  (results fn tmps).run Tryz.prog w = .ok (b.V o1 o2) w := by
 rw [Array.getD_eq_getD_getElem?] at hp
 have l1 : (loadVar 37 ⟨g, 0, none⟩).run Tryz.prog w = .ok (b.V o1 o2) w := run_loadVar_row w g 37 37 (b.cells o1 o2) (0, 0) _ hg Tryz.underlying37 rfl (size32 b o1 o2)
 simp [results, h, hp, asAddr, l1]
def BAns (w : World) (b : Bk) (e : Ending) (w' : World) : Prop := ∃ o p, e = .returned (b.V o p) ∧ BAt w' b o p ∧ Below w.heap.size w w'
def B2 (w : World) (r : Bk × Int) (e : Ending) (w' : World) : Prop := ∃ o p, e = .returned (.tuple #[r.1.V o p, .int .i64 r.2]) ∧ BAt w' r.1 o p ∧ Below w.heap.size w w'
def B3 (w : World) (r : Bk × Cg × Int) (e : Ending) (w' : World) : Prop := ∃ o p, e = .returned (.tuple #[r.1.V o p, r.2.1.V, .int .i64 r.2.2]) ∧ BAt w' r.1 o p ∧ Below w.heap.size w w'
theorem new1 (w : World) (c1 : Array Value) (t1 : TypeId) : Below w.heap.size w (w.alloc (.cells c1 t1)) ∧ At (w.alloc (.cells c1 t1)) w.heap.size t1 c1 := ⟨below_new _ _, At.new _ _ _⟩
theorem new2 (w : World) (c1 c2 : Array Value) (t1 t2 : TypeId) : Below w.heap.size w ((w.alloc (.cells c1 t1)).alloc (.cells c2 t2)) ∧ At ((w.alloc (.cells c1 t1)).alloc (.cells c2 t2)) w.heap.size t1 c1 ∧ At ((w.alloc (.cells c1 t1)).alloc (.cells c2 t2)) (w.heap.size + 1) t2 c2 := by
 have e : (w.alloc (.cells c1 t1)).heap.size = w.heap.size + 1 := by simp
 obtain ⟨b2, h2⟩ := new1 (w.alloc (.cells c1 t1)) c2 t2
 obtain ⟨b1, h1⟩ := new1 w c1 t1
 have := h1.step b2
 rw [e] at h2 b2
 exact ⟨b1.trans (b2.mono (by omega)), this, h2⟩
theorem new3 (w : World) (c1 c2 c3 : Array Value) (t1 t2 t3 : TypeId) : Below w.heap.size w (((w.alloc (.cells c1 t1)).alloc (.cells c2 t2)).alloc (.cells c3 t3)) ∧ At (((w.alloc (.cells c1 t1)).alloc (.cells c2 t2)).alloc (.cells c3 t3)) w.heap.size t1 c1 ∧ At (((w.alloc (.cells c1 t1)).alloc (.cells c2 t2)).alloc (.cells c3 t3)) (w.heap.size + 1) t2 c2 ∧ At (((w.alloc (.cells c1 t1)).alloc (.cells c2 t2)).alloc (.cells c3 t3)) (w.heap.size + 1 + 1) t3 c3 := by
 have e : ((w.alloc (.cells c1 t1)).alloc (.cells c2 t2)).heap.size = w.heap.size + 1 + 1 := by simp
 obtain ⟨b2, h2⟩ := new1 ((w.alloc (.cells c1 t1)).alloc (.cells c2 t2)) c3 t3
 obtain ⟨b1, h1, k1⟩ := new2 w c1 c2 t1 t2
 have i1 := h1.step b2; have j1 := k1.step b2
 rw [e] at h2 b2
 exact ⟨b1.trans (b2.mono (by omega)), i1, j1, h2⟩
theorem new4 (w : World) (c1 c2 c3 c4 : Array Value) (t1 t2 t3 t4 : TypeId) : Below w.heap.size w ((((w.alloc (.cells c1 t1)).alloc (.cells c2 t2)).alloc (.cells c3 t3)).alloc (.cells c4 t4)) ∧ At ((((w.alloc (.cells c1 t1)).alloc (.cells c2 t2)).alloc (.cells c3 t3)).alloc (.cells c4 t4)) w.heap.size t1 c1 ∧ At ((((w.alloc (.cells c1 t1)).alloc (.cells c2 t2)).alloc (.cells c3 t3)).alloc (.cells c4 t4)) (w.heap.size + 1) t2 c2 ∧ At ((((w.alloc (.cells c1 t1)).alloc (.cells c2 t2)).alloc (.cells c3 t3)).alloc (.cells c4 t4)) (w.heap.size + 1 + 1) t3 c3 ∧ At ((((w.alloc (.cells c1 t1)).alloc (.cells c2 t2)).alloc (.cells c3 t3)).alloc (.cells c4 t4)) (w.heap.size + 1 + 1 + 1) t4 c4 := by
 have e : (((w.alloc (.cells c1 t1)).alloc (.cells c2 t2)).alloc (.cells c3 t3)).heap.size = w.heap.size + 1 + 1 + 1 := by simp
 obtain ⟨b2, h2⟩ := new1 (((w.alloc (.cells c1 t1)).alloc (.cells c2 t2)).alloc (.cells c3 t3)) c4 t4
 obtain ⟨b1, h1, k1, l1⟩ := new3 w c1 c2 c3 t1 t2 t3
 have i1 := h1.step b2; have j1 := k1.step b2; have m1 := l1.step b2
 rw [e] at h2 b2
 exact ⟨b1.trans (b2.mono (by omega)), i1, j1, m1, h2⟩
end Go.Proofs.YtplapoenhohliaaGreat
