import Derived.Test.YtplapoenhohliaaGreatBkR
import Derived.Test.YtplapoenhohliaaGreatRfF
import Derived.Test.YtplapoenhohliaaGreatRfG
import Derived.Test.YtplapoenhohliaaGreatBkL
namespace Go.Proofs.YtplapoenhohliaaGreat
open Go.RowKit Go.Lib
open Sh.Plain (KV get put del Rise)
set_option linter.unusedVariables false
set_option linter.unusedSimpArgs false
structure U where
 c : Cfg
 is : Bool
 ix : Int
 live : List K
 done : List K
 m : List Int
 ml : m.length = 4
abbrev Sl : Type := Option Addr × Nat
abbrev Sl.v (s : Sl) (n : Nat) : Value := .slice s.1 n s.2
def s0 : Sl := (none, 0)
def U.tail (u : U) (s t : Sl) : List Value := [.int .u32 u.c.s, .bool u.is, .int .i64 u.ix, s.v u.live.length, t.v u.done.length] ++ u.m.map (Value.int .i64)
def U.cells (u : U) (s t : Sl) : Array Value := (u.c.n.map (Value.int .i64) ++ u.tail s t).toArray
abbrev U.V (u : U) (s t : Sl) : Value := .agg (u.cells s t)
def zu : U := ⟨zc, false, 0, [], [], [0, 0, 0, 0], rfl⟩
abbrev Z26 : Array Value := #[.int .i64 0, .int .i64 0, .int .i64 0, .int .i64 0, .int .i64 0, .int .i64 0, .int .i64 0, .int .i64 0, .int .i64 0, .int .i64 0, .int .i64 0, .int .i64 0, .int .i64 0, .int .i64 0, .int .i64 0, .int .i64 0, .int .i64 0, .int .u32 0, .bool false, .int .i64 0, .slice none 0 0, .slice none 0 0, .int .i64 0, .int .i64 0, .int .i64 0, .int .i64 0]
section
variable (u : U) (s t : Sl)
theorem U.tail_len : (u.tail s t).length = 9 := by simp [U.tail, u.ml]
theorem U.size : (u.cells s t).size = 26 := by simp [U.cells, u.c.len, u.tail_len]
theorem U.one : (u.cells s t).all (·.oneCell') = true := by
 refine Array.all_eq_true_iff_forall_mem.2 fun v hv => ?_
 simp [U.cells, U.tail] at hv
 rcases hv with ⟨a, _, rfl⟩ | rfl | rfl | rfl | rfl | rfl | ⟨a, _, rfl⟩ <;> rfl
theorem U.at_tail (k : Nat) : (u.cells s t)[17 + k]? = (u.tail s t)[k]? := by
 have h : ¬ 17 + k < (u.c.n.map (Value.int .i64)).length := by rw [List.length_map, u.c.len]; omega
 simp only [U.cells, List.getElem?_toArray, List.getElem?_append, if_neg h]
 rw [List.length_map, u.c.len, Nat.add_sub_cancel_left]
theorem U.at18 : (u.cells s t)[18]? = some (.bool u.is) := u.at_tail s t 1
theorem U.at19 : (u.cells s t)[19]? = some (.int .i64 u.ix) := u.at_tail s t 2
theorem U.at20 : (u.cells s t)[20]? = some (s.v u.live.length) := u.at_tail s t 3
theorem U.at21 : (u.cells s t)[21]? = some (t.v u.done.length) := u.at_tail s t 4
theorem U.atM {i : Nat} (h : i < 4) : (u.cells s t)[22 + i]? = some (.int .i64 (u.m.getD i 0)) := by
 have e := u.at_tail s t (5 + i)
 rw [show 17 + (5 + i) = 22 + i by omega] at e
 rw [e]
 have hl : i < u.m.length := by rw [u.ml]; exact h
 simp only [U.tail, List.getElem?_append]
 rw [if_neg (by simp), show 5 + i - List.length _ = i from by simp]
 simp [hl]
theorem U.conf (j : Nat) (v : Value) (h : u.c.cells[j]? = some v) : (u.cells s t)[0 + j]? = some v := by
 rw [Nat.zero_add]
 have hj : j < 18 := by have := (Array.getElem?_eq_some_iff.1 h).1; rwa [u.c.size] at this
 by_cases h17 : j < 17
 ·have hl : j < u.c.n.length := by rw [u.c.len]; exact h17
  simp only [Cfg.cells, List.getElem?_toArray] at h
  simp only [U.cells, List.getElem?_toArray]
  rw [List.getElem?_append_left (by rw [List.length_map]; exact hl)] at h ⊢
  exact h
 ·obtain rfl : j = 17 := by omega
  rw [u.c.atS] at h
  rw [← h]
  exact u.at_tail s t 0
theorem U.set_tail (k : Nat) (v : Value) : (u.cells s t).setIfInBounds (17 + k) v = (u.c.n.map (Value.int .i64) ++ (u.tail s t).set k v).toArray := by
 simp only [U.cells, List.setIfInBounds_toArray]
 rw [List.set_append_right _ _ (by rw [List.length_map, u.c.len]; omega), List.length_map, u.c.len, Nat.add_sub_cancel_left]
theorem U.set_is (b : Bool) : (u.cells s t).setIfInBounds 18 (.bool b) = ({ u with is := b } : U).cells s t := u.set_tail s t 1 _
theorem U.set_ix (n : Int) : (u.cells s t).setIfInBounds 19 (.int .i64 n) = ({ u with ix := n } : U).cells s t := u.set_tail s t 2 _
theorem U.set_live (l : List K) (s' : Sl) : (u.cells s t).setIfInBounds 20 (s'.v l.length) = ({ u with live := l } : U).cells s' t := u.set_tail s t 3 _
theorem U.set_done (l : List K) (t' : Sl) : (u.cells s t).setIfInBounds 21 (t'.v l.length) = ({ u with done := l } : U).cells s t' := u.set_tail s t 4 _
theorem U.set_m {i : Nat} (h : i < 4) (n : Int) : (u.cells s t).setIfInBounds (22 + i) (.int .i64 n) = ({ u with m := u.m.set i n, ml := by rw [List.length_set]; exact u.ml } : U).cells s t := by
 have e := u.set_tail s t (5 + i) (.int .i64 n)
 rw [show 17 + (5 + i) = 22 + i by omega] at e
 rw [e]
 simp only [U.cells, U.tail]
 rw [List.set_append_right _ _ (by simp), show 5 + i - List.length _ = i from by simp, List.map_set]
theorem sizeU : (Tryz.prog.info? 65).map (·.size) = some (u.cells s t).size := by rw [u.size]; kernel_rfl
end
def Sl.ok (w : World) (s : Sl) (xs : List K) : Prop := (s = s0 ∧ xs = []) ∨ ∃ b off cs, s.1 = some ⟨b, off, none⟩ ∧ At w b 46 cs
def RdF (w : World) (s : Sl) (xs : List K) : Prop := Sh.Rd Sh.eC w (s.v xs.length) xs ∧ Sl.ok w s xs
def UAt (w : World) (u : U) (s t : Sl) : Prop := RdF w s u.live ∧ RdF w t u.done
theorem RdF.step {w w' : World} {s : Sl} {xs : List K} (h : RdF w s xs) (hb : Below w.heap.size w w') : RdF w' s xs := ⟨h.1.below hb, h.2.imp id (fun ⟨b, off, cs, e, ha⟩ => ⟨b, off, cs, e, At.step ha hb⟩)⟩
abbrev UkAt (w : World) (g : Nat) (u : U) (s t : Sl) : Prop := At w g 65 (u.cells s t)
theorem UAt.step {w w' : World} {u : U} {s t : Sl} (h : UAt w u s t) (hb : Below w.heap.size w w') : UAt w' u s t := ⟨h.1.step hb, h.2.step hb⟩
theorem rd_nil (w : World) : Sh.Rd Sh.eC w (.slice none 0 0) [] := ⟨none, 0, rfl, Nat.le_refl _, fun i x h => by simp at h⟩
theorem RdF.nil (w : World) : RdF w s0 [] := ⟨rd_nil w, .inl ⟨rfl, rfl⟩⟩
theorem UAt.zero (w : World) : UAt w zu s0 s0 := ⟨RdF.nil w, RdF.nil w⟩
section
variable {w w' : World} {g : Nat} {u : U} {s t : Sl}
theorem UkAt.k18 (h : UkAt w g u s t) : w.cell? ⟨g, 18, none⟩ = some (.bool u.is) := by rw [At.cell h, u.at18]
theorem UkAt.k19 (h : UkAt w g u s t) : w.cell? ⟨g, 19, none⟩ = some (.int .i64 u.ix) := by rw [At.cell h, u.at19]
theorem UkAt.k20 (h : UkAt w g u s t) : w.cell? ⟨g, 20, none⟩ = some (s.v u.live.length) := by rw [At.cell h, u.at20]
theorem UkAt.k21 (h : UkAt w g u s t) : w.cell? ⟨g, 21, none⟩ = some (t.v u.done.length) := by rw [At.cell h, u.at21]
theorem UkAt.kM (h : UkAt w g u s t) {i : Nat} (hi : i < 4) : w.cell? ⟨g, 22 + i, none⟩ = some (.int .i64 (u.m.getD i 0)) := by rw [At.cell h, u.atM s t hi]
theorem UkAt.kc (h : UkAt w g u s t) : w.rangeAt g 0 u.c.cells.toList := fun j v hv => by
 rw [At.cell h]; exact u.conf s t j v (by simpa using hv)
theorem UkAt.kn (h : UkAt w g u s t) {j : Nat} (hj : j < 17) : w.cell? ⟨g, j, none⟩ = some (.int .i64 (u.c.get j)) := by
 have := u.conf s t j _ (u.c.at_ hj)
 rw [Nat.zero_add] at this
 rw [At.cell h, this]
theorem UkAt.setI (h : UkAt w g u s t) (n : Int) : UkAt (w.setCell ⟨g, 19, none⟩ (.int .i64 n)) g { u with ix := n } s t := by
 have := At.set h 19 (.int .i64 n)
 rwa [u.set_ix] at this
theorem UkAt.setB (h : UkAt w g u s t) (b : Bool) : UkAt (w.setCell ⟨g, 18, none⟩ (.bool b)) g { u with is := b } s t := by
 have := At.set h 18 (.bool b)
 rwa [u.set_is] at this
theorem UkAt.setM (h : UkAt w g u s t) {i : Nat} (hi : i < 4) (n : Int) : UkAt (w.setCell ⟨g, 22 + i, none⟩ (.int .i64 n)) g { u with m := u.m.set i n, ml := by rw [List.length_set]; exact u.ml } s t := by
 have := At.set h (22 + i) (.int .i64 n)
 rwa [u.set_m s t hi] at this
theorem UkAt.setL (h : UkAt w g u s t) (l : List K) (s' : Sl) : UkAt (w.setCell ⟨g, 20, none⟩ (s'.v l.length)) g { u with live := l } s' t := by
 have := At.set h 20 (s'.v l.length)
 rwa [u.set_live s t] at this
theorem UkAt.setD (h : UkAt w g u s t) (l : List K) (t' : Sl) : UkAt (w.setCell ⟨g, 21, none⟩ (t'.v l.length)) g { u with done := l } s t' := by
 have := At.set h 21 (t'.v l.length)
 rwa [u.set_done s t] at this
theorem UkAt.new (w : World) (u : U) (s t : Sl) : UkAt (w.alloc (.cells (u.cells s t) 65)) w.heap.size u s t := At.new w 65 _
end
section
variable {ops : Array Oper} {rest : List Oper} {o : Oper} {a : Act} {w : World} {Q : Exit → Act → World → Prop}
theorem wpList_load_uk (x : Tmp) (ho : o.op = .load 65 (.tmp x)) (hgd : Region.wanted o (yielded ops a.tmps) = true) {g : Nat} {b : U} {s t : Sl} (e : a.eval (.tmp x) = ptr g 0) (h : UkAt w g b s t)
  (k : wpList Tryz.prog ops Q rest (a.put o.dst (b.V s t)) w) : wpList Tryz.prog ops Q (o :: rest) a w :=
 wpList_load_rowG hgd 65 (.tmp x) ho g e 65 (b.cells s t) (0, 0) _ h Tryz.underlying65 rfl (sizeU b s t) k
theorem wpList_store_uk (x y : Tmp) (ho : o.op = .store 65 (.tmp x) (.tmp y)) (hgd : o.guard = none) {q : Nat} {b z : U} {s t s' t' : Sl} (e1 : a.eval (.tmp x) = ptr q 0) (e2 : a.eval (.tmp y) = b.V s t) (hq : UkAt w q z s' t')
  (k : wpList Tryz.prog ops Q rest (a.put o.dst undef) (w.setRow q (b.cells s t))) : wpList Tryz.prog ops Q (o :: rest) a w :=
 wpList_store_row hgd 65 (.tmp x) (.tmp y) ho q (b.cells s t) e1 e2 65 (z.cells s' t') hq (sizeU b s t) (by rw [z.size, b.size]) (b.one s t) k
theorem wpList_store_unew (x y : Tmp) (ho : o.op = .store 65 (.tmp x) (.tmp y)) (hgd : o.guard = none) {c : U} {s t : Sl} (e1 : a.eval (.tmp x) = ptr w.heap.size 0) (e2 : a.eval (.tmp y) = c.V s t)
  (k : wpList Tryz.prog ops Q rest (a.put o.dst undef) (w.alloc (.cells (c.cells s t) 65))) : wpList Tryz.prog ops Q (o :: rest) a (w.alloc (.cells Z26 65)) := by
 refine wpList_store_uk x y ho hgd e1 e2 (z := zu) (s' := s0) (t' := s0) (UkAt.new w zu s0 s0) ?_
 rw [World.setRow_alloc_new]
 exact k
theorem wpList_build_zu (ho : o.op = .build 65 #[]) (hgd : o.guard = none) (k : wpList Tryz.prog ops Q rest (a.put o.dst (zu.V s0 s0)) w) : wpList Tryz.prog ops Q (o :: rest) a w :=
 wpList_build_as hgd 65 #[] ho (zu.cells s0 s0) (by kernel_rfl) k
end
section
variable {ρ : Operand → Value} {w : World} {x y : Tmp} {d : Option Tmp} {t : TypeId} {pos : String} {af : Array Edge} {gd : Option (Nat × Bool)}
theorem run_load_uk {g : Nat} {b : U} {s t' : Sl} (e : ρ (.tmp x) = ptr g 0) (h : UkAt w g b s t') : (execOp ρ { dst := d, op := Op.load 65 (.tmp x), type := t, pos := pos, after := af, guard := gd }).run Tryz.prog w = .ok (.value (b.V s t')) w := by
 unfold execOp
 simp only [e, Instr.loadAt, Instr.sureAddr, Sem.run_bind, Sem.run_pure, Result.andThen_ok, run_loadVar_row w g 65 65 (b.cells s t') (0, 0) _ h Tryz.underlying65 rfl (sizeU b s t')]
theorem run_store_uk {q : Nat} {b z : U} {s t' s' t'' : Sl} (e1 : ρ (.tmp x) = ptr q 0) (e2 : ρ (.tmp y) = b.V s t') (hq : UkAt w q z s' t'') : (execOp ρ { dst := d, op := Op.store 65 (.tmp x) (.tmp y), type := t, pos := pos, after := af, guard := gd }).run Tryz.prog w = .ok .skip (w.setRow q (b.cells s t')) := by
 unfold execOp
 simp only [e1, e2, Instr.storeAt, Instr.sureAddr, Sem.run_bind, Sem.run_pure, Result.andThen_ok, run_storeVar_row w q 65 65 (z.cells s' t'') (b.cells s t') hq (sizeU b s t') (by rw [z.size, b.size]) (b.one s t')]
end
theorem results_u3 {fn : Func} {p q r : Tmp} (h : fn.results = #[.cell p 65, .cell q 48, .tmp r]) {tmps : Array Value} {w : World} {g s : Nat} {b : U} {o1 o2 : Sl} {x : Cg} {v : Value} (hp : tmps.getD p undef = ptr g 0) (hq : tmps.getD q undef = ptr s 0) (hr : tmps.getD r undef = v) (hg : UkAt w g b o1 o2) (hs : CgAt w s x) :
  (results fn tmps).run Tryz.prog w = .ok (.tuple #[b.V o1 o2, x.V, v]) w := by
 rw [Array.getD_eq_getD_getElem?] at hp hq hr
 have l1 : (loadVar 65 ⟨g, 0, none⟩).run Tryz.prog w = .ok (b.V o1 o2) w := run_loadVar_row w g 65 65 (b.cells o1 o2) (0, 0) _ hg Tryz.underlying65 rfl (sizeU b o1 o2)
 have l2 : (loadVar 48 ⟨s, 0, none⟩).run Tryz.prog w = .ok x.V w := run_loadVar_row w s 48 48 x.cells (0, 0) _ hs Tryz.underlying48 rfl (size39 x)
 simp [results, h, hp, hq, hr, asAddr, l1, l2]
theorem results_u2 {fn : Func} {p r : Tmp} (h : fn.results = #[.cell p 65, .tmp r]) {tmps : Array Value} {w : World} {g : Nat} {b : U} {o1 o2 : Sl} {v : Value} (hp : tmps.getD p undef = ptr g 0) (hr : tmps.getD r undef = v) (hg : UkAt w g b o1 o2) :
  (results fn tmps).run Tryz.prog w = .ok (.tuple #[b.V o1 o2, v]) w := by
 rw [Array.getD_eq_getD_getElem?] at hp hr
 have l1 : (loadVar 65 ⟨g, 0, none⟩).run Tryz.prog w = .ok (b.V o1 o2) w := run_loadVar_row w g 65 65 (b.cells o1 o2) (0, 0) _ hg Tryz.underlying65 rfl (sizeU b o1 o2)
 simp [results, h, hp, hr, asAddr, l1]
theorem results_u1 {fn : Func} {p : Tmp} (h : fn.results = #[.cell p 65]) {tmps : Array Value} {w : World} {g : Nat} {b : U} {o1 o2 : Sl} (hp : tmps.getD p undef = ptr g 0) (hg : UkAt w g b o1 o2) :
  (results fn tmps).run Tryz.prog w = .ok (b.V o1 o2) w := by
 rw [Array.getD_eq_getD_getElem?] at hp
 have l1 : (loadVar 65 ⟨g, 0, none⟩).run Tryz.prog w = .ok (b.V o1 o2) w := run_loadVar_row w g 65 65 (b.cells o1 o2) (0, 0) _ hg Tryz.underlying65 rfl (sizeU b o1 o2)
 simp [results, h, hp, asAddr, l1]
def UAns (w : World) (b : U) (e : Ending) (w' : World) : Prop := ∃ s t, e = .returned (b.V s t) ∧ UAt w' b s t ∧ Below w.heap.size w w'
def U2 (w : World) (r : U × Int) (e : Ending) (w' : World) : Prop := ∃ s t, e = .returned (.tuple #[r.1.V s t, .int .i64 r.2]) ∧ UAt w' r.1 s t ∧ Below w.heap.size w w'
def U3 (w : World) (r : U × Cg × Int) (e : Ending) (w' : World) : Prop := ∃ s t, e = .returned (.tuple #[r.1.V s t, r.2.1.V, .int .i64 r.2.2]) ∧ UAt w' r.1 s t ∧ Below w.heap.size w w'
theorem RdF.other {w w' : World} {s : Sl} {xs : List K} (h : RdF w s xs) (hs : w.heap.size ≤ w'.heap.size) (hk : ∀ b cs, At w b 46 cs → w'.heap[b]? = w.heap[b]?) : RdF w' s xs := by
 refine ⟨?_, h.2.imp id (fun ⟨b, off, cs, e, ha⟩ => ⟨b, off, cs, e, (hk b cs ha).trans ha⟩)⟩
 obtain ⟨O, cap, e, hc, k⟩ := h.1
 refine ⟨O, cap, e, hc, fun i x hx => ?_⟩
 obtain ⟨b, off, e2, hb, k2⟩ := k i x hx
 refine ⟨b, off, e2, Nat.lt_of_lt_of_le hb hs, fun j u hu => ?_⟩
 rcases h.2 with ⟨_, h0⟩ | ⟨b', off', cs, e3, ha⟩
 ·subst h0; simp at hx
 ·injection e with e _ _
  rw [e, e2] at e3
  injection e3 with e3
  injection e3 with e3 _
  subst e3
  have := k2 j u hu
  rw [← this]
  simp [World.cell?, hk b cs ha]
theorem RdF.farRow {w : World} {q : Nat} {e : TypeId} {cs ds : Array Value} {s : Sl} {xs : List K} (h : RdF w s xs) (ha : At w q e cs) (h1 : e ≠ 46) : RdF (w.setRow q ds) s xs :=
 h.other (by simp [World.setRow]) (fun b c hb => by
  have hne : b ≠ q := At.ne hb ha (Ne.symm h1)
  unfold World.setRow
  simp only [Array.getElem?_modify]
  rw [if_neg (Ne.symm hne)])
theorem UAt.farRow {w : World} {q : Nat} {e : TypeId} {cs ds : Array Value} {u : U} {s t : Sl} (h : UAt w u s t) (ha : At w q e cs) (h1 : e ≠ 46) : UAt (w.setRow q ds) u s t := ⟨h.1.farRow ha h1, h.2.farRow ha h1⟩
theorem fin3U {w W : World} {q r : Nat} {b z : U} {o p o' p' : Sl} {x z' : Cg} (hq : UkAt W q z o' p') (hr : CgAt W r z') (hb : Below w.heap.size w W) (l1 : w.heap.size ≤ q) (l2 : w.heap.size ≤ r) (ha : UAt W b o p) (n : Int) :
  UkAt ((W.setRow q (b.cells o p)).setRow r x.cells) q b o p ∧ CgAt ((W.setRow q (b.cells o p)).setRow r x.cells) r x ∧ U3 w (b, x, n) (.returned (.tuple #[b.V o p, x.V, .int .i64 n])) ((W.setRow q (b.cells o p)).setRow r x.cells) := by
 have ne : q ≠ r := At.ne hq hr (by decide)
 have a1 : UkAt (W.setRow q (b.cells o p)) q b o p := At.setRow hq _
 have r1 : CgAt (W.setRow q (b.cells o p)) r z' := At.farRow hr (Ne.symm ne)
 have a2 : UAt (W.setRow q (b.cells o p)) b o p := ha.farRow hq (by decide)
 exact ⟨At.farRow a1 ne, At.setRow r1 _, o, p, rfl, a2.farRow r1 (by decide), setRow_below (setRow_below hb l1 _) l2 _⟩
end Go.Proofs.YtplapoenhohliaaGreat
