/- Words for memory: a block known whole; which blocks a call may have turned; a slice of bytes that the call owns. No Go text. -/
import Derived.Test.YtlmdhkaplemjpaaGreatRows
import Derived.WalkKit
import Derived.WalkLawsBesides
import Derived.WalkSpells
import Derived.StillTactics
import Derived.Deep.LoopGhost
import Derived.Deep.Draws
import Derived.Deep.RegionHeld3
import Derived.Deep.AppendLies
import Derived.RowKit3
import Derived.Lib.Hide
import Derived.IntWalk
import Derived.Outline
import Derived.Test.YtlmdhkaplemjpaaGreatProg
namespace Go.Proofs.YtlmdhkaplemjpaaGreat
open Go.RowKit Go.Lib

/-- block g is these cells, of type t, none frozen -/
def At (w : World) (g : Nat) (t : TypeId) (cs : Array Value) : Prop := w.heap[g]? = some (.cells cs t (0, 0))
/-- w' is w but for the blocks of S and new ones -/
structure Chg (w w' : World) (S : Nat → Prop) : Prop where
  os : w'.os = w.os
  tape : w'.tape = w.tape
  output : w'.output = w.output
  size : w.heap.size ≤ w'.heap.size
  block : ∀ k, k < w.heap.size → ¬ S k → w'.heap[k]? = w.heap[k]?

section
variable {w w' : World} {g : Nat} {t : TypeId} {cs : Array Value}
theorem At.lt (h : At w g t cs) : g < w.heap.size := (Array.getElem?_eq_some_iff.1 h).1
theorem At.cell (h : At w g t cs) (i : Nat) : w.cell? ⟨g, i, none⟩ = cs[i]? := cell_of_row w g i cs t (0, 0) h
theorem At.frozen (h : At w g t cs) (i : Nat) : w.frozen? ⟨g, i, none⟩ = false := by
  unfold At at h; simp [World.frozen?, h]
theorem At.new (w : World) (t : TypeId) (cs : Array Value) : At (w.alloc (.cells cs t)) w.heap.size t cs := heap_alloc_new w _
theorem At.drew (h : At w g t cs) : At w.drew g t cs := h
theorem At.alloc (h : At w g t cs) (o : Obj) : At (w.alloc o) g t cs := (Below.heap_alloc w o g h.lt).trans h
theorem At.set (h : At w g t cs) (i : Nat) (u : Value) : At (w.setCell ⟨g, i, none⟩ u) g t (cs.setIfInBounds i u) := by
  unfold At at h ⊢; simp [World.setCell, Array.getElem?_modify, h]
theorem At.far (h : At w g t cs) {p : Addr} (hp : g ≠ p.block) (u : Value) : At (w.setCell p u) g t cs := (Below.heap_setCell w p u g hp).trans h
theorem At.chg {S : Nat → Prop} (h : At w g t cs) (hc : Chg w w' S) (hg : ¬ S g) : At w' g t cs := (hc.block g h.lt hg).trans h
theorem At.below {B : Nat} (h : At w g t cs) (hb : Below B w w') (hg : g < B) : At w' g t cs := (hb.block g hg).trans h
theorem At.ne {g' : Nat} {t' : TypeId} {cs' : Array Value} (h : At w g t cs) (h' : At w g' t' cs') (hne : t ≠ t') : g ≠ g' := by
  rintro rfl
  have e : Obj.cells cs t (0, 0) = Obj.cells cs' t' (0, 0) := Option.some.inj (h.symm.trans h')
  injection e with _ e
  exact hne e
theorem At.eq {cs' : Array Value} (h : At w g t cs) (h' : At w g t cs') : cs = cs' := by
  have e : Obj.cells cs t (0, 0) = Obj.cells cs' t (0, 0) := Option.some.inj (h.symm.trans h')
  injection e
end

section
variable {a b c : World} {S T : Nat → Prop}
theorem Chg.refl (a : World) (S : Nat → Prop) : Chg a a S := ⟨rfl, rfl, rfl, Nat.le_refl _, fun _ _ _ => rfl⟩
theorem Chg.trans (h : Chg a b S) (k : Chg b c T) (hT : ∀ i, i < a.heap.size → T i → S i) : Chg a c S :=
  ⟨k.os.trans h.os, k.tape.trans h.tape, k.output.trans h.output, Nat.le_trans h.size k.size,
    fun i hi hn => (k.block i (Nat.lt_of_lt_of_le hi h.size) (fun e => hn (hT i hi e))).trans (h.block i hi hn)⟩
theorem Chg.mono (h : Chg a b S) (hT : ∀ i, i < a.heap.size → S i → T i) : Chg a b T :=
  ⟨h.os, h.tape, h.output, h.size, fun i hi hn => h.block i hi (fun e => hn (hT i hi e))⟩
theorem Chg.alloc (h : Chg a b S) (o : Obj) : Chg a (b.alloc o) S :=
  ⟨h.os, h.tape, h.output, Nat.le_trans h.size (by simp), fun i hi hn => (Below.heap_alloc b o i (Nat.lt_of_lt_of_le hi h.size)).trans (h.block i hi hn)⟩
theorem Chg.drew (h : Chg a b S) : Chg a b.drew S := ⟨h.os, h.tape, h.output, h.size, h.block⟩
theorem Chg.set (h : Chg a b S) {p : Addr} (hp : p.block < a.heap.size → S p.block) (u : Value) : Chg a (b.setCell p u) S :=
  ⟨h.os, h.tape, h.output, by simpa [World.setCell] using h.size, fun i hi hn => (Below.heap_setCell b p u i (by
    rintro rfl; exact hn (hp hi))).trans (h.block i hi hn)⟩
theorem Chg.grown {row : Option Nat} (hg : a.grownBy b row) : Chg a b (fun k => row = some k) :=
  ⟨hg.os, hg.tape, hg.output, hg.size, fun i hi hn => hg.block i hi (fun e => hn e.symm)⟩
theorem Chg.ofBelow (h : Below a.heap.size a b) (S : Nat → Prop) : Chg a b S := ⟨h.os, h.tape, h.output, h.size, fun i hi _ => h.block i hi⟩
theorem Chg.toBelow {B : Nat} (h : Chg a b S) (hB : B ≤ a.heap.size) (hS : ∀ k, k < B → ¬ S k) : Below B a b :=
  ⟨h.os, h.tape, h.output, h.size, fun i hi => h.block i (by omega) (hS i hi)⟩
theorem own_chg {base : Nat} {e : TypeId} {size : Nat} {v : Value} {n : Nat} {xs : List Value} (h : a.ownsRow base e size v n xs) (hc : Chg a b S) (hv : ∀ k, v.ownBlock = some k → ¬ S k) : b.ownsRow base e size v n xs := by
  refine ⟨h.1, ?_⟩
  rcases h.2 with hn | ⟨g, cap, cur, rfl, hb, hgg, rest⟩
  · exact .inl hn
  · exact .inr ⟨g, cap, cur, rfl, hb, (hc.block g (Array.getElem?_eq_some_iff.1 hgg).1 (hv g rfl)).trans hgg, rest⟩
theorem own_ne {base : Nat} {e : TypeId} {size : Nat} {v : Value} {n : Nat} {xs : List Value} {g : Nat} {t : TypeId} {cs : Array Value} (h : a.ownsRow base e size v n xs) (hg : At a g t cs) (hne : e ≠ t) : v.ownBlock ≠ some g := by
  rcases h.2 with ⟨rfl, _⟩ | ⟨g', cap, cur, rfl, _, hh, _⟩
  · simp [Value.ownBlock]
  · intro he
    have : g' = g := by simpa [Value.ownBlock] using he
    subst this
    exact At.ne (t := e) hh hg hne rfl
theorem own_ne2 {base base' : Nat} {e e' : TypeId} {size size' : Nat} {v v' : Value} {n n' : Nat} {xs xs' : List Value} {g : Nat} (h : a.ownsRow base e size v n xs) (h' : a.ownsRow base' e' size' v' n' xs') (hne : e ≠ e') (hg : v.ownBlock = some g) : v'.ownBlock ≠ some g := by
  rcases h.2 with ⟨rfl, _⟩ | ⟨g', cap, cur, rfl, _, hh, _⟩
  · simp [Value.ownBlock] at hg
  · have : g' = g := by simpa [Value.ownBlock] using hg
    subst this
    exact own_ne h' (g := g') hh (Ne.symm hne)
end

/-- where the row of a slice that was appended to lies: where it lay, or in a new block -/
def Lies (w : World) (v v' : Value) : Prop := v'.ownBlock = v.ownBlock ∨ ∃ g, v'.ownBlock = some g ∧ w.heap.size ≤ g
theorem Lies.refl (w : World) (v : Value) : Lies w v v := .inl rfl
theorem Lies.trans {w w1 : World} {v v1 v2 : Value} (h : Lies w v v1) (k : Lies w1 v1 v2) (hs : w.heap.size ≤ w1.heap.size) : Lies w v v2 := by
  rcases k with k | ⟨g, k, hg⟩
  · rcases h with h | ⟨g, h, hg⟩
    · exact .inl (k.trans h)
    · exact .inr ⟨g, k.trans h, hg⟩
  · exact .inr ⟨g, k, by omega⟩
theorem Lies.old {w : World} {v v' : Value} (h : Lies w v v') {g : Nat} (hg : v'.ownBlock = some g) (hlt : g < w.heap.size) : v.ownBlock = some g := by
  rcases h with h | ⟨g', h, hg'⟩
  · rw [← h, hg]
  · rw [h] at hg; injection hg with hg; omega

theorem info3 : (Tryz.prog.info? 3).map (fun i => (i.zero, i.size, i.bytes)) = some (some (.int .i64 0), 1, 8) := by kernel_rfl
end Go.Proofs.YtlmdhkaplemjpaaGreat
/- Configurations as plain lists of numbers: which can be, the number of a name, another number. No Go text. -/
namespace Go.Proofs.YtlmdhkaplemjpaaGreat
open Go.RowKit Go.Lib
set_option linter.unusedVariables false

/-- a configuration: seventeen numbers and a secret -/
structure Cfg where
  n : List Int
  s : Int
  len : n.length = 17
def Cfg.get (c : Cfg) (k : Nat) : Int := c.n.getD k 0
def Cfg.set (c : Cfg) (k : Nat) (x : Int) : Cfg := ⟨c.n.set k x, c.s, by rw [List.length_set]; exact c.len⟩
def Cfg.cells (c : Cfg) : Array Value := (c.n.map (Value.int .i64) ++ [Value.int .u32 c.s]).toArray
abbrev Cfg.V (c : Cfg) : Value := .agg c.cells
theorem Cfg.ext {c d : Cfg} (h : c.n = d.n) (hs : c.s = d.s) : c = d := by cases c; cases d; simp at h hs; subst h; subst hs; rfl
theorem Cfg.size (c : Cfg) : c.cells.size = 18 := by simp [Cfg.cells, c.len]
theorem Cfg.at_ (c : Cfg) {k : Nat} (h : k < 17) : c.cells[k]? = some (.int .i64 (c.get k)) := by
  have hl : k < c.n.length := by rw [c.len]; exact h
  simp [Cfg.cells, Cfg.get, List.getElem?_append, hl]
theorem Cfg.atS (c : Cfg) : c.cells[17]? = some (.int .u32 c.s) := by
  simp [Cfg.cells, c.len]
theorem Cfg.cells_set (c : Cfg) {k : Nat} (h : k < 17) (x : Int) : (c.set k x).cells = c.cells.setIfInBounds k (.int .i64 x) := by
  have hl : k < c.n.length := by rw [c.len]; exact h
  simp [Cfg.cells, Cfg.set, hl, List.map_set]
theorem Cfg.get_set (c : Cfg) {k : Nat} (h : k < 17) (x : Int) (j : Nat) : (c.set k x).get j = if j = k then x else c.get j := by
  have hl : k < c.n.length := by rw [c.len]; exact h
  simp only [Cfg.get, Cfg.set, List.getD_eq_getElem?_getD, List.getElem?_set]
  by_cases e : k = j
  · subst e; simp [hl]
  · simp [e, Ne.symm e]
theorem Cfg.get_same (c : Cfg) {k : Nat} (h : k < 17) (x : Int) : (c.set k x).get k = x := by rw [c.get_set h, if_pos rfl]
theorem Cfg.eq_of {c d : Cfg} (h : ∀ k, k < 17 → c.get k = d.get k) (hs : c.s = d.s) : c = d := by
  refine Cfg.ext ?_ hs
  apply List.ext_getElem (by rw [c.len, d.len])
  intro i h1 h2
  have := h i (by rw [← c.len]; exact h1)
  simpa [Cfg.get, h1, h2] using this
theorem Cfg.set_s (c : Cfg) (k : Nat) (x : Int) : (c.set k x).s = c.s := rfl
theorem Cfg.set_back (c : Cfg) {k : Nat} (h : k < 17) (x : Int) : (c.set k x).set k (c.get k) = c := by
  refine Cfg.eq_of (fun j hj => ?_) rfl
  rw [Cfg.get_set _ h, Cfg.get_set _ h]
  by_cases e : j = k
  · subst e; simp
  · simp [e]
theorem Cfg.set_comm (c : Cfg) {j k : Nat} (hj : j < 17) (hk : k < 17) (hne : j ≠ k) (x y : Int) : (c.set j x).set k y = (c.set k y).set j x := by
  refine Cfg.eq_of (fun i hi => ?_) rfl
  rw [Cfg.get_set _ hk, Cfg.get_set _ hj, Cfg.get_set _ hj, Cfg.get_set _ hk]
  by_cases e1 : i = j
  · subst e1; simp [hne]
  · simp [e1]

/-- the least and the greatest -/
def los : List Int := [2, 1, 1, 1, 1, 1, 1, 1, 1, 1, 1, 1, 1, 0, 0, 1, 0]
def his : List Int := [32, 4, 8, 64, 8, 64, 65536, 1024, 1024, 65536, 16, 16, 64, 8, 1048576, 4, 4]
def lo (k : Nat) : Int := los.getD k 0
def hi (k : Nat) : Int := his.getD k 0
def okAt (c : Cfg) (k : Nat) : Bool := decide (lo k ≤ c.get k) && decide (c.get k ≤ hi k)
/-- the first j numbers can be -/
def okTo (c : Cfg) (j : Nat) : Bool := (List.range j).all (okAt c)
def okc (c : Cfg) : Bool := okTo c 17
theorem okTo_succ (c : Cfg) (j : Nat) : okTo c (j + 1) = (okTo c j && okAt c j) := by simp [okTo, List.range_succ]
theorem okTo_spec {c : Cfg} {j : Nat} : okTo c j = true ↔ ∀ k, k < j → lo k ≤ c.get k ∧ c.get k ≤ hi k := by
  simp [okTo, okAt]
theorem okc_spec {c : Cfg} : okc c = true ↔ ∀ k, k < 17 → lo k ≤ c.get k ∧ c.get k ≤ hi k := okTo_spec
theorem okc_false {c : Cfg} {k : Nat} (hk : k < 17) (h : okAt c k = false) : okc c = false := by
  cases e : okc c
  · rfl
  · have := okc_spec.1 e k hk
    simp [okAt] at h
    omega
theorem okAt_iff {c : Cfg} {k : Nat} : okAt c k = true ↔ lo k ≤ c.get k ∧ c.get k ≤ hi k := by simp [okAt]

/-- the names -/
def names : List ByteArray := [⟨#[102, 108, 111, 111, 114, 115]⟩, ⟨#[99, 97, 114, 115]⟩, ⟨#[115, 101, 97, 116, 115]⟩, ⟨#[99, 97, 108, 108, 115]⟩, ⟨#[108, 105, 110, 101, 115]⟩, ⟨#[107, 101, 121, 115]⟩, ⟨#[119, 105, 110, 100, 111, 119]⟩, ⟨#[98, 117, 114, 115, 116]⟩, ⟨#[114, 97, 116, 101]⟩, ⟨#[105, 100, 108, 101]⟩, ⟨#[105, 110]⟩, ⟨#[111, 117, 116]⟩, ⟨#[102, 101, 101, 100]⟩, ⟨#[114, 101, 116, 114, 105, 101, 115]⟩, ⟨#[108, 105, 102, 101]⟩, ⟨#[100, 111, 111, 114]⟩, ⟨#[104, 111, 108, 100, 115]⟩]
def nm (k : Nat) : ByteArray := names.getD k ⟨#[]⟩
theorem names_length : names.length = 17 := rfl
theorem nm_inj : ∀ j, j < 17 → ∀ k, k < 17 → nm j = nm k → j = k := by decide
theorem nm_get {k : Nat} (h : k < 17) : names[k]? = some (nm k) := by
  have hl : k < names.length := h
  simp [nm, hl]
/-- where a name stands: 17 if nowhere -/
def idx (s : ByteArray) : Nat := names.findIdx (fun x => decide (x = s))
theorem idx_nm {k : Nat} (h : k < 17) : idx (nm k) = k := by
  have : ∀ k, k < 17 → idx (nm k) = k := by decide
  exact this k h
theorem idx_le (s : ByteArray) : idx s ≤ 17 := List.findIdx_le_length (p := _) (xs := names)
theorem idx_lt {s : ByteArray} (h : idx s < 17) : nm (idx s) = s := by
  have hl : idx s < names.length := h
  have := List.findIdx_getElem (p := fun x => decide (x = s)) (xs := names) (w := hl)
  have e : names[idx s] = s := of_decide_eq_true this
  simp only [nm, List.getD_eq_getElem?_getD]
  rw [List.getElem?_eq_getElem hl]
  exact e
theorem idx_not {s : ByteArray} {j : Nat} (h : j < idx s) : nm j ≠ s := by
  have hj : j < 17 := Nat.lt_of_lt_of_le h (idx_le s)
  intro e
  rw [← e, idx_nm hj] at h
  omega
end Go.Proofs.YtlmdhkaplemjpaaGreat
/- The table of numbers: what it holds, and the place of each. -/
namespace Go.Proofs.YtlmdhkaplemjpaaGreat
open Go.RowKit Go.Lib
set_option linter.unusedVariables false

/-- a pointer to a place of a block -/
abbrev ptr (p k : Nat) : Value := .pointer (some ⟨p, k, none⟩)
/-- a row of the table -/
def row (k : Nat) : List Value := [.string (nm k), .int .i64 (lo k), .int .i64 (hi k), .func (.func (77 + k)) #[] #[]]
def NUM : Array Value := ((List.range 17).flatMap row).toArray
theorem NUM_at : ∀ k, k < 17 → NUM[4 * k]? = some (.string (nm k)) ∧ NUM[4 * k + 1]? = some (.int .i64 (lo k)) ∧ NUM[4 * k + 2]? = some (.int .i64 (hi k)) ∧ NUM[4 * k + 3]? = some (.func (.func (77 + k)) #[] #[])
  | 0, _ => ⟨rfl, rfl, rfl, rfl⟩
  | 1, _ => ⟨rfl, rfl, rfl, rfl⟩
  | 2, _ => ⟨rfl, rfl, rfl, rfl⟩
  | 3, _ => ⟨rfl, rfl, rfl, rfl⟩
  | 4, _ => ⟨rfl, rfl, rfl, rfl⟩
  | 5, _ => ⟨rfl, rfl, rfl, rfl⟩
  | 6, _ => ⟨rfl, rfl, rfl, rfl⟩
  | 7, _ => ⟨rfl, rfl, rfl, rfl⟩
  | 8, _ => ⟨rfl, rfl, rfl, rfl⟩
  | 9, _ => ⟨rfl, rfl, rfl, rfl⟩
  | 10, _ => ⟨rfl, rfl, rfl, rfl⟩
  | 11, _ => ⟨rfl, rfl, rfl, rfl⟩
  | 12, _ => ⟨rfl, rfl, rfl, rfl⟩
  | 13, _ => ⟨rfl, rfl, rfl, rfl⟩
  | 14, _ => ⟨rfl, rfl, rfl, rfl⟩
  | 15, _ => ⟨rfl, rfl, rfl, rfl⟩
  | 16, _ => ⟨rfl, rfl, rfl, rfl⟩
  | n + 17, h => absurd h (by omega)
set_option maxRecDepth 100000 in
set_option maxHeartbeats 6400000 in
theorem numbers_any (w : World) : Calls Tryz.prog 54 #[] w fun e w' => e = .returned (.slice (some ⟨w.heap.size, 0, none⟩) 17 17) ∧ w' = w.alloc (.cells NUM 112) := by
  go_enter Tryz.func54, Tryz.ntmps54
  go_wp2
  go_ret
  exact ⟨rfl, rfl⟩
theorem place_any (p : Nat) (w : World) (k : Nat) (hk : k < 17) : Calls Tryz.prog (77 + k) #[ptr p 0] w fun e w' => e = .returned (ptr p k) ∧ w = w' := by
  match k, hk with
  | 0, _ =>
    go_enter Tryz.func77, Tryz.ntmps77
    go_wp2
    go_ret
    exact ⟨rfl, rfl⟩
  | 1, _ =>
    go_enter Tryz.func78, Tryz.ntmps78
    go_wp2
    go_ret
    exact ⟨rfl, rfl⟩
  | 2, _ =>
    go_enter Tryz.func79, Tryz.ntmps79
    go_wp2
    go_ret
    exact ⟨rfl, rfl⟩
  | 3, _ =>
    go_enter Tryz.func80, Tryz.ntmps80
    go_wp2
    go_ret
    exact ⟨rfl, rfl⟩
  | 4, _ =>
    go_enter Tryz.func81, Tryz.ntmps81
    go_wp2
    go_ret
    exact ⟨rfl, rfl⟩
  | 5, _ =>
    go_enter Tryz.func82, Tryz.ntmps82
    go_wp2
    go_ret
    exact ⟨rfl, rfl⟩
  | 6, _ =>
    go_enter Tryz.func83, Tryz.ntmps83
    go_wp2
    go_ret
    exact ⟨rfl, rfl⟩
  | 7, _ =>
    go_enter Tryz.func84, Tryz.ntmps84
    go_wp2
    go_ret
    exact ⟨rfl, rfl⟩
  | 8, _ =>
    go_enter Tryz.func85, Tryz.ntmps85
    go_wp2
    go_ret
    exact ⟨rfl, rfl⟩
  | 9, _ =>
    go_enter Tryz.func86, Tryz.ntmps86
    go_wp2
    go_ret
    exact ⟨rfl, rfl⟩
  | 10, _ =>
    go_enter Tryz.func87, Tryz.ntmps87
    go_wp2
    go_ret
    exact ⟨rfl, rfl⟩
  | 11, _ =>
    go_enter Tryz.func88, Tryz.ntmps88
    go_wp2
    go_ret
    exact ⟨rfl, rfl⟩
  | 12, _ =>
    go_enter Tryz.func89, Tryz.ntmps89
    go_wp2
    go_ret
    exact ⟨rfl, rfl⟩
  | 13, _ =>
    go_enter Tryz.func90, Tryz.ntmps90
    go_wp2
    go_ret
    exact ⟨rfl, rfl⟩
  | 14, _ =>
    go_enter Tryz.func91, Tryz.ntmps91
    go_wp2
    go_ret
    exact ⟨rfl, rfl⟩
  | 15, _ =>
    go_enter Tryz.func92, Tryz.ntmps92
    go_wp2
    go_ret
    exact ⟨rfl, rfl⟩
  | 16, _ =>
    go_enter Tryz.func93, Tryz.ntmps93
    go_wp2
    go_ret
    exact ⟨rfl, rfl⟩
  | n + 17, h => exact absurd h (by omega)
end Go.Proofs.YtlmdhkaplemjpaaGreat
/- The place of the number of a name. -/
namespace Go.Proofs.YtlmdhkaplemjpaaGreat
open Go.RowKit Go.Lib
set_option linter.unusedVariables false

theorem toList_inj {a b : ByteArray} (h : a.toList = b.toList) : a = b := by
  rw [ByteArray.toList_eq, ByteArray.toList_eq] at h
  cases a; cases b; simp at h; subst h; rfl
theorem text_ne {a b : ByteArray} (h : a ≠ b) : (a.toList == b.toList) = false := by
  rw [beq_eq_false_iff_ne]
  exact fun e => h (toList_inj e)
theorem below_new (w : World) (o : Obj) : Below w.heap.size w (w.alloc o) := (Below.refl _ _).alloc (Nat.le_refl _) _
/-- the four cells of a row -/
theorem num_cells {w : World} {g j : Nat} (h : At w g 112 NUM) (hj : j < 17) : w.cell? ⟨g, j * 4, none⟩ = some (.string (nm j)) ∧ w.cell? ⟨g, j * 4 + 1, none⟩ = some (.int .i64 (lo j)) ∧ w.cell? ⟨g, j * 4 + 2, none⟩ = some (.int .i64 (hi j)) ∧ w.cell? ⟨g, j * 4 + 3, none⟩ = some (.func (.func (77 + j)) #[] #[]) := by
  obtain ⟨h0, h1, h2, h3⟩ := NUM_at j hj
  rw [Nat.mul_comm j 4]
  exact ⟨by rw [h.cell]; exact h0, by rw [h.cell]; exact h1, by rw [h.cell]; exact h2, by rw [h.cell]; exact h3⟩
theorem store_fn : ∀ (fn : Fn) (x y : Array Value) (W : World) (a : Addr) (m : Mode), (store a (.func fn x y) m).run Tryz.prog W = stored Tryz.prog W a (.func fn x y) m := fun _ _ _ W a m => run_store _ W a _ m rfl
set_option maxRecDepth 100000 in
theorem call_fn (j : Nat) (hj : j < 17) (args : Array Value) (W : World) : (callFunc (77 + j) args).run Tryz.prog W = .ok (.enter (77 + j) args) W := by
  match j, hj with
  | 0, _ => rfl
  | 1, _ => rfl
  | 2, _ => rfl
  | 3, _ => rfl
  | 4, _ => rfl
  | 5, _ => rfl
  | 6, _ => rfl
  | 7, _ => rfl
  | 8, _ => rfl
  | 9, _ => rfl
  | 10, _ => rfl
  | 11, _ => rfl
  | 12, _ => rfl
  | 13, _ => rfl
  | 14, _ => rfl
  | 15, _ => rfl
  | 16, _ => rfl
  | n + 17, h => exact absurd h (by omega)
end Go.Proofs.YtlmdhkaplemjpaaGreat
