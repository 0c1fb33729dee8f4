import Derived.Test.YtplapoenhohliaaGreatRows
import Derived.WalkKit
import Derived.WalkLawsBesides
import Derived.WalkSpells
import Derived.StillTactics
import Derived.Deep.LoopGhost
import Derived.Deep.Draws
import Derived.Deep.RegionHeld3
import Derived.Deep.AppendLies
import Derived.RowKit3
import Derived.Lib.Hide
import Derived.IntWalk
import Derived.Outline
import Derived.Test.YtplapoenhohliaaGreatProg
namespace Go.Proofs.YtplapoenhohliaaGreat
open Go.RowKit Go.Lib
def At (w : World) (g : Nat) (t : TypeId) (cs : Array Value) : Prop := w.heap[g]? = some (.cells cs t (0, 0))
structure Chg (w w' : World) (S : Nat → Prop) : Prop where
 os : w'.os = w.os
 tape : w'.tape = w.tape
 output : w'.output = w.output
 size : w.heap.size ≤ w'.heap.size
 block : ∀ k, k < w.heap.size → ¬ S k → w'.heap[k]? = w.heap[k]?
section
variable {w w' : World} {g : Nat} {t : TypeId} {cs : Array Value}
theorem At.lt (h : At w g t cs) : g < w.heap.size := (Array.getElem?_eq_some_iff.1 h).1
theorem At.cell (h : At w g t cs) (i : Nat) : w.cell? ⟨g, i, none⟩ = cs[i]? := cell_of_row w g i cs t (0, 0) h
theorem At.frozen (h : At w g t cs) (i : Nat) : w.frozen? ⟨g, i, none⟩ = false := by
 unfold At at h; simp [World.frozen?, h]
theorem At.new (w : World) (t : TypeId) (cs : Array Value) : At (w.alloc (.cells cs t)) w.heap.size t cs := heap_alloc_new w _
theorem At.drew (h : At w g t cs) : At w.drew g t cs := h
theorem At.alloc (h : At w g t cs) (o : Obj) : At (w.alloc o) g t cs := (Below.heap_alloc w o g h.lt).trans h
theorem At.set (h : At w g t cs) (i : Nat) (u : Value) : At (w.setCell ⟨g, i, none⟩ u) g t (cs.setIfInBounds i u) := by
 unfold At at h ⊢; simp [World.setCell, Array.getElem?_modify, h]
theorem At.far (h : At w g t cs) {p : Addr} (hp : g ≠ p.block) (u : Value) : At (w.setCell p u) g t cs := (Below.heap_setCell w p u g hp).trans h
theorem At.chg {S : Nat → Prop} (h : At w g t cs) (hc : Chg w w' S) (hg : ¬ S g) : At w' g t cs := (hc.block g h.lt hg).trans h
theorem At.below {B : Nat} (h : At w g t cs) (hb : Below B w w') (hg : g < B) : At w' g t cs := (hb.block g hg).trans h
theorem At.ne {g' : Nat} {t' : TypeId} {cs' : Array Value} (h : At w g t cs) (h' : At w g' t' cs') (hne : t ≠ t') : g ≠ g' := by
 rintro rfl
 have e : Obj.cells cs t (0, 0) = Obj.cells cs' t' (0, 0) := Option.some.inj (h.symm.trans h')
 injection e with _ e
 exact hne e
end
section
variable {a b c : World} {S T : Nat → Prop}
theorem Chg.refl (a : World) (S : Nat → Prop) : Chg a a S := ⟨rfl, rfl, rfl, Nat.le_refl _, fun _ _ _ => rfl⟩
theorem Chg.trans (h : Chg a b S) (k : Chg b c T) (hT : ∀ i, i < a.heap.size → T i → S i) : Chg a c S :=
 ⟨k.os.trans h.os, k.tape.trans h.tape, k.output.trans h.output, Nat.le_trans h.size k.size,
  fun i hi hn => (k.block i (Nat.lt_of_lt_of_le hi h.size) (fun e => hn (hT i hi e))).trans (h.block i hi hn)⟩
theorem Chg.mono (h : Chg a b S) (hT : ∀ i, i < a.heap.size → S i → T i) : Chg a b T :=
 ⟨h.os, h.tape, h.output, h.size, fun i hi hn => h.block i hi (fun e => hn (hT i hi e))⟩
theorem Chg.alloc (h : Chg a b S) (o : Obj) : Chg a (b.alloc o) S :=
 ⟨h.os, h.tape, h.output, Nat.le_trans h.size (by simp), fun i hi hn => (Below.heap_alloc b o i (Nat.lt_of_lt_of_le hi h.size)).trans (h.block i hi hn)⟩
theorem Chg.drew (h : Chg a b S) : Chg a b.drew S := ⟨h.os, h.tape, h.output, h.size, h.block⟩
theorem Chg.set (h : Chg a b S) {p : Addr} (hp : p.block < a.heap.size → S p.block) (u : Value) : Chg a (b.setCell p u) S :=
 ⟨h.os, h.tape, h.output, by simpa [World.setCell] using h.size, fun i hi hn => (Below.heap_setCell b p u i (by
  rintro rfl; exact hn (hp hi))).trans (h.block i hi hn)⟩
theorem Chg.grown {row : Option Nat} (hg : a.grownBy b row) : Chg a b (fun k => row = some k) :=
 ⟨hg.os, hg.tape, hg.output, hg.size, fun i hi hn => hg.block i hi (fun e => hn e.symm)⟩
theorem Chg.ofBelow (h : Below a.heap.size a b) (S : Nat → Prop) : Chg a b S := ⟨h.os, h.tape, h.output, h.size, fun i hi _ => h.block i hi⟩
theorem Chg.toBelow {B : Nat} (h : Chg a b S) (hB : B ≤ a.heap.size) (hS : ∀ k, k < B → ¬ S k) : Below B a b :=
 ⟨h.os, h.tape, h.output, h.size, fun i hi => h.block i (by omega) (hS i hi)⟩
theorem own_chg {base : Nat} {e : TypeId} {size : Nat} {v : Value} {n : Nat} {xs : List Value} (h : a.ownsRow base e size v n xs) (hc : Chg a b S) (hv : ∀ k, v.ownBlock = some k → ¬ S k) : b.ownsRow base e size v n xs := by
 refine ⟨h.1, ?_⟩
 rcases h.2 with hn | ⟨g, cap, cur, rfl, hb, hgg, rest⟩
 ·exact .inl hn
 ·exact .inr ⟨g, cap, cur, rfl, hb, (hc.block g (Array.getElem?_eq_some_iff.1 hgg).1 (hv g rfl)).trans hgg, rest⟩
theorem own_ne {base : Nat} {e : TypeId} {size : Nat} {v : Value} {n : Nat} {xs : List Value} {g : Nat} {t : TypeId} {cs : Array Value} (h : a.ownsRow base e size v n xs) (hg : At a g t cs) (hne : e ≠ t) : v.ownBlock ≠ some g := by
 rcases h.2 with ⟨rfl, _⟩ | ⟨g', cap, cur, rfl, _, hh, _⟩
 ·simp [Value.ownBlock]
 ·intro he
  have : g' = g := by simpa [Value.ownBlock] using he
  subst this
  exact At.ne (t := e) hh hg hne rfl
theorem own_ne2 {base base' : Nat} {e e' : TypeId} {size size' : Nat} {v v' : Value} {n n' : Nat} {xs xs' : List Value} {g : Nat} (h : a.ownsRow base e size v n xs) (h' : a.ownsRow base' e' size' v' n' xs') (hne : e ≠ e') (hg : v.ownBlock = some g) : v'.ownBlock ≠ some g := by
 rcases h.2 with ⟨rfl, _⟩ | ⟨g', cap, cur, rfl, _, hh, _⟩
 ·simp [Value.ownBlock] at hg
 ·have : g' = g := by simpa [Value.ownBlock] using hg
  subst this
  exact own_ne h' (g := g') hh (Ne.symm hne)
end
def Lies (w : World) (v v' : Value) : Prop := v'.ownBlock = v.ownBlock ∨ ∃ g, v'.ownBlock = some g ∧ w.heap.size ≤ g
theorem Lies.refl (w : World) (v : Value) : Lies w v v := .inl rfl
theorem Lies.trans {w w1 : World} {v v1 v2 : Value} (h : Lies w v v1) (k : Lies w1 v1 v2) (hs : w.heap.size ≤ w1.heap.size) : Lies w v v2 := by
 rcases k with k | ⟨g, k, hg⟩
 ·rcases h with h | ⟨g, h, hg⟩
  ·exact .inl (k.trans h)
  ·exact .inr ⟨g, k.trans h, hg⟩
 ·exact .inr ⟨g, k, by omega⟩
theorem Lies.old {w : World} {v v' : Value} (h : Lies w v v') {g : Nat} (hg : v'.ownBlock = some g) (hlt : g < w.heap.size) : v.ownBlock = some g := by
 rcases h with h | ⟨g', h, hg'⟩
 ·rw [← h, hg]
 ·rw [h] at hg; injection hg with hg; omega
theorem info3 : (Tryz.prog.info? 3).map (fun i => (i.zero, i.size, i.bytes)) = some (some (.int .i64 0), 1, 8) := by kernel_rfl
end Go.Proofs.YtplapoenhohliaaGreat
namespace Go.Proofs.YtplapoenhohliaaGreat
open Go.RowKit Go.Lib
set_option linter.unusedVariables false
structure Cfg where
 n : List Int
 s : Int
 len : n.length = 17
def Cfg.get (c : Cfg) (k : Nat) : Int := c.n.getD k 0
def Cfg.set (c : Cfg) (k : Nat) (x : Int) : Cfg := ⟨c.n.set k x, c.s, by rw [List.length_set]; exact c.len⟩
def Cfg.cells (c : Cfg) : Array Value := (c.n.map (Value.int .i64) ++ [Value.int .u32 c.s]).toArray
abbrev Cfg.V (c : Cfg) : Value := .agg c.cells
theorem Cfg.ext {c d : Cfg} (h : c.n = d.n) (hs : c.s = d.s) : c = d := by cases c; cases d; simp at h hs; subst h; subst hs; rfl
theorem Cfg.size (c : Cfg) : c.cells.size = 18 := by simp [Cfg.cells, c.len]
theorem Cfg.at_ (c : Cfg) {k : Nat} (h : k < 17) : c.cells[k]? = some (.int .i64 (c.get k)) := by
 have hl : k < c.n.length := by rw [c.len]; exact h
 simp [Cfg.cells, Cfg.get, List.getElem?_append, hl]
theorem Cfg.atS (c : Cfg) : c.cells[17]? = some (.int .u32 c.s) := by
 simp [Cfg.cells, c.len]
theorem Cfg.eq_of {c d : Cfg} (h : ∀ k, k < 17 → c.get k = d.get k) (hs : c.s = d.s) : c = d := by
 refine Cfg.ext ?_ hs
 apply List.ext_getElem (by rw [c.len, d.len])
 intro i h1 h2
 have := h i (by rw [← c.len]; exact h1)
 simpa [Cfg.get, h1, h2] using this
def los : List Int := [2, 1, 1, 1, 1, 1, 1, 1, 1, 1, 1, 1, 1, 0, 0, 1, 0]
def his : List Int := [32, 4, 8, 64, 8, 64, 65536, 1024, 1024, 65536, 16, 16, 64, 8, 1048576, 4, 4]
def lo (k : Nat) : Int := los.getD k 0
def hi (k : Nat) : Int := his.getD k 0
def okAt (c : Cfg) (k : Nat) : Bool := decide (lo k ≤ c.get k) && decide (c.get k ≤ hi k)
def okTo (c : Cfg) (j : Nat) : Bool := (List.range j).all (okAt c)
def okc (c : Cfg) : Bool := okTo c 17
theorem okTo_succ (c : Cfg) (j : Nat) : okTo c (j + 1) = (okTo c j && okAt c j) := by simp [okTo, List.range_succ]
theorem okTo_spec {c : Cfg} {j : Nat} : okTo c j = true ↔ ∀ k, k < j → lo k ≤ c.get k ∧ c.get k ≤ hi k := by
 simp [okTo, okAt]
theorem okc_spec {c : Cfg} : okc c = true ↔ ∀ k, k < 17 → lo k ≤ c.get k ∧ c.get k ≤ hi k := okTo_spec
theorem okc_false {c : Cfg} {k : Nat} (hk : k < 17) (h : okAt c k = false) : okc c = false := by
 cases e : okc c
 ·rfl
 ·have := okc_spec.1 e k hk
  simp [okAt] at h
  omega
theorem okAt_iff {c : Cfg} {k : Nat} : okAt c k = true ↔ lo k ≤ c.get k ∧ c.get k ≤ hi k := by simp [okAt]
def names : List ByteArray := [⟨#[102, 108, 111, 111, 114, 115]⟩, ⟨#[99, 97, 114, 115]⟩, ⟨#[115, 101, 97, 116, 115]⟩, ⟨#[99, 97, 108, 108, 115]⟩, ⟨#[108, 105, 110, 101, 115]⟩, ⟨#[107, 101, 121, 115]⟩, ⟨#[119, 105, 110, 100, 111, 119]⟩, ⟨#[98, 117, 114, 115, 116]⟩, ⟨#[114, 97, 116, 101]⟩, ⟨#[105, 100, 108, 101]⟩, ⟨#[105, 110]⟩, ⟨#[111, 117, 116]⟩, ⟨#[102, 101, 101, 100]⟩, ⟨#[114, 101, 116, 114, 105, 101, 115]⟩, ⟨#[108, 105, 102, 101]⟩, ⟨#[100, 111, 111, 114]⟩, ⟨#[104, 111, 108, 100, 115]⟩]
def nm (k : Nat) : ByteArray := names.getD k ⟨#[]⟩
def idx (s : ByteArray) : Nat := names.findIdx (fun x => decide (x = s))
end Go.Proofs.YtplapoenhohliaaGreat
namespace Go.Proofs.YtplapoenhohliaaGreat
open Go.RowKit Go.Lib
set_option linter.unusedVariables false
abbrev ptr (p k : Nat) : Value := .pointer (some ⟨p, k, none⟩)
def row (k : Nat) : List Value := [.string (nm k), .int .i64 (lo k), .int .i64 (hi k), .func (.func (60 + k)) #[] #[]]
def NUM : Array Value := ((List.range 17).flatMap row).toArray
theorem NUM_at : ∀ k, k < 17 → NUM[4 * k]? = some (.string (nm k)) ∧ NUM[4 * k + 1]? = some (.int .i64 (lo k)) ∧ NUM[4 * k + 2]? = some (.int .i64 (hi k)) ∧ NUM[4 * k + 3]? = some (.func (.func (60 + k)) #[] #[])
 | 0, _ => ⟨rfl, rfl, rfl, rfl⟩
 | 1, _ => ⟨rfl, rfl, rfl, rfl⟩
 | 2, _ => ⟨rfl, rfl, rfl, rfl⟩
 | 3, _ => ⟨rfl, rfl, rfl, rfl⟩
 | 4, _ => ⟨rfl, rfl, rfl, rfl⟩
 | 5, _ => ⟨rfl, rfl, rfl, rfl⟩
 | 6, _ => ⟨rfl, rfl, rfl, rfl⟩
 | 7, _ => ⟨rfl, rfl, rfl, rfl⟩
 | 8, _ => ⟨rfl, rfl, rfl, rfl⟩
 | 9, _ => ⟨rfl, rfl, rfl, rfl⟩
 | 10, _ => ⟨rfl, rfl, rfl, rfl⟩
 | 11, _ => ⟨rfl, rfl, rfl, rfl⟩
 | 12, _ => ⟨rfl, rfl, rfl, rfl⟩
 | 13, _ => ⟨rfl, rfl, rfl, rfl⟩
 | 14, _ => ⟨rfl, rfl, rfl, rfl⟩
 | 15, _ => ⟨rfl, rfl, rfl, rfl⟩
 | 16, _ => ⟨rfl, rfl, rfl, rfl⟩
 | n + 17, h => absurd h (by omega)
set_option maxRecDepth 100000 in
set_option maxHeartbeats 6400000 in
theorem numbers_any (w : World) : Calls Tryz.prog 41 #[] w fun e w' => e = .returned (.slice (some ⟨w.heap.size, 0, none⟩) 17 17) ∧ w' = w.alloc (.cells NUM 102) := by
 go_enter Tryz.func41, Tryz.ntmps41
 go_wp2
 go_ret
 exact ⟨rfl, rfl⟩
theorem place_any (p : Nat) (w : World) (k : Nat) (hk : k < 17) : Calls Tryz.prog (60 + k) #[ptr p 0] w fun e w' => e = .returned (ptr p k) ∧ w = w' := by
 match k, hk with
 | 0, _ =>
  go_enter Tryz.func60, Tryz.ntmps60
  go_wp2
  go_ret
  exact ⟨rfl, rfl⟩
 | 1, _ =>
  go_enter Tryz.func61, Tryz.ntmps61
  go_wp2
  go_ret
  exact ⟨rfl, rfl⟩
 | 2, _ =>
  go_enter Tryz.func62, Tryz.ntmps62
  go_wp2
  go_ret
  exact ⟨rfl, rfl⟩
 | 3, _ =>
  go_enter Tryz.func63, Tryz.ntmps63
  go_wp2
  go_ret
  exact ⟨rfl, rfl⟩
 | 4, _ =>
  go_enter Tryz.func64, Tryz.ntmps64
  go_wp2
  go_ret
  exact ⟨rfl, rfl⟩
 | 5, _ =>
  go_enter Tryz.func65, Tryz.ntmps65
  go_wp2
  go_ret
  exact ⟨rfl, rfl⟩
 | 6, _ =>
  go_enter Tryz.func66, Tryz.ntmps66
  go_wp2
  go_ret
  exact ⟨rfl, rfl⟩
 | 7, _ =>
  go_enter Tryz.func67, Tryz.ntmps67
  go_wp2
  go_ret
  exact ⟨rfl, rfl⟩
 | 8, _ =>
  go_enter Tryz.func68, Tryz.ntmps68
  go_wp2
  go_ret
  exact ⟨rfl, rfl⟩
 | 9, _ =>
  go_enter Tryz.func69, Tryz.ntmps69
  go_wp2
  go_ret
  exact ⟨rfl, rfl⟩
 | 10, _ =>
  go_enter Tryz.func70, Tryz.ntmps70
  go_wp2
  go_ret
  exact ⟨rfl, rfl⟩
 | 11, _ =>
  go_enter Tryz.func71, Tryz.ntmps71
  go_wp2
  go_ret
  exact ⟨rfl, rfl⟩
 | 12, _ =>
  go_enter Tryz.func72, Tryz.ntmps72
  go_wp2
  go_ret
  exact ⟨rfl, rfl⟩
 | 13, _ =>
  go_enter Tryz.func73, Tryz.ntmps73
  go_wp2
  go_ret
  exact ⟨rfl, rfl⟩
 | 14, _ =>
  go_enter Tryz.func74, Tryz.ntmps74
  go_wp2
  go_ret
  exact ⟨rfl, rfl⟩
 | 15, _ =>
  go_enter Tryz.func75, Tryz.ntmps75
  go_wp2
  go_ret
  exact ⟨rfl, rfl⟩
 | 16, _ =>
  go_enter Tryz.func76, Tryz.ntmps76
  go_wp2
  go_ret
  exact ⟨rfl, rfl⟩
 | n + 17, h => exact absurd h (by omega)
end Go.Proofs.YtplapoenhohliaaGreat
namespace Go.Proofs.YtplapoenhohliaaGreat
open Go.RowKit Go.Lib
set_option linter.unusedVariables false
theorem below_new (w : World) (o : Obj) : Below w.heap.size w (w.alloc o) := (Below.refl _ _).alloc (Nat.le_refl _) _
theorem num_cells {w : World} {g j : Nat} (h : At w g 102 NUM) (hj : j < 17) : w.cell? ⟨g, j * 4, none⟩ = some (.string (nm j)) ∧ w.cell? ⟨g, j * 4 + 1, none⟩ = some (.int .i64 (lo j)) ∧ w.cell? ⟨g, j * 4 + 2, none⟩ = some (.int .i64 (hi j)) ∧ w.cell? ⟨g, j * 4 + 3, none⟩ = some (.func (.func (60 + j)) #[] #[]) := by
 obtain ⟨h0, h1, h2, h3⟩ := NUM_at j hj
 rw [Nat.mul_comm j 4]
 exact ⟨by rw [h.cell]; exact h0, by rw [h.cell]; exact h1, by rw [h.cell]; exact h2, by rw [h.cell]; exact h3⟩
theorem store_fn : ∀ (fn : Fn) (x y : Array Value) (W : World) (a : Addr) (m : Mode), (store a (.func fn x y) m).run Tryz.prog W = stored Tryz.prog W a (.func fn x y) m := fun _ _ _ W a m => run_store _ W a _ m rfl
set_option maxRecDepth 100000 in
theorem call_fn (j : Nat) (hj : j < 17) (args : Array Value) (W : World) : (callFunc (60 + j) args).run Tryz.prog W = .ok (.enter (60 + j) args) W := by
 match j, hj with
 | 0, _ => rfl
 | 1, _ => rfl
 | 2, _ => rfl
 | 3, _ => rfl
 | 4, _ => rfl
 | 5, _ => rfl
 | 6, _ => rfl
 | 7, _ => rfl
 | 8, _ => rfl
 | 9, _ => rfl
 | 10, _ => rfl
 | 11, _ => rfl
 | 12, _ => rfl
 | 13, _ => rfl
 | 14, _ => rfl
 | 15, _ => rfl
 | 16, _ => rfl
 | n + 17, h => exact absurd h (by omega)
end Go.Proofs.YtplapoenhohliaaGreat
