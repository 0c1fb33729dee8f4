/- Configurations as plain lists of numbers: which can be, the number of a name, another number. No Go text. -/
import Derived.Test.YtepfgheliddpmaaMem
namespace Go.Proofs.Ytepfgheliddpmaa
open Go.RowKit Go.Lib
set_option linter.unusedVariables false

/-- a configuration: seventeen numbers and a secret -/
structure Cfg where
  n : List Int
  s : Int
  len : n.length = 17
def Cfg.get (c : Cfg) (k : Nat) : Int := c.n.getD k 0
def Cfg.set (c : Cfg) (k : Nat) (x : Int) : Cfg := ⟨c.n.set k x, c.s, by rw [List.length_set]; exact c.len⟩
def Cfg.cells (c : Cfg) : Array Value := (c.n.map (Value.int .i64) ++ [Value.int .u32 c.s]).toArray
abbrev Cfg.V (c : Cfg) : Value := .agg c.cells
theorem Cfg.ext {c d : Cfg} (h : c.n = d.n) (hs : c.s = d.s) : c = d := by cases c; cases d; simp at h hs; subst h; subst hs; rfl
theorem Cfg.size (c : Cfg) : c.cells.size = 18 := by simp [Cfg.cells, c.len]
theorem Cfg.at_ (c : Cfg) {k : Nat} (h : k < 17) : c.cells[k]? = some (.int .i64 (c.get k)) := by
  have hl : k < c.n.length := by rw [c.len]; exact h
  simp [Cfg.cells, Cfg.get, List.getElem?_append, hl]
theorem Cfg.atS (c : Cfg) : c.cells[17]? = some (.int .u32 c.s) := by
  simp [Cfg.cells, c.len]
theorem Cfg.cells_set (c : Cfg) {k : Nat} (h : k < 17) (x : Int) : (c.set k x).cells = c.cells.setIfInBounds k (.int .i64 x) := by
  have hl : k < c.n.length := by rw [c.len]; exact h
  simp [Cfg.cells, Cfg.set, hl, List.map_set]
theorem Cfg.get_set (c : Cfg) {k : Nat} (h : k < 17) (x : Int) (j : Nat) : (c.set k x).get j = if j = k then x else c.get j := by
  have hl : k < c.n.length := by rw [c.len]; exact h
  simp only [Cfg.get, Cfg.set, List.getD_eq_getElem?_getD, List.getElem?_set]
  by_cases e : k = j
  · subst e; simp [hl]
  · simp [e, Ne.symm e]
theorem Cfg.get_same (c : Cfg) {k : Nat} (h : k < 17) (x : Int) : (c.set k x).get k = x := by rw [c.get_set h, if_pos rfl]
theorem Cfg.eq_of {c d : Cfg} (h : ∀ k, k < 17 → c.get k = d.get k) (hs : c.s = d.s) : c = d := by
  refine Cfg.ext ?_ hs
  apply List.ext_getElem (by rw [c.len, d.len])
  intro i h1 h2
  have := h i (by rw [← c.len]; exact h1)
  simpa [Cfg.get, h1, h2] using this
theorem Cfg.set_s (c : Cfg) (k : Nat) (x : Int) : (c.set k x).s = c.s := rfl
theorem Cfg.set_back (c : Cfg) {k : Nat} (h : k < 17) (x : Int) : (c.set k x).set k (c.get k) = c := by
  refine Cfg.eq_of (fun j hj => ?_) rfl
  rw [Cfg.get_set _ h, Cfg.get_set _ h]
  by_cases e : j = k
  · subst e; simp
  · simp [e]
theorem Cfg.set_comm (c : Cfg) {j k : Nat} (hj : j < 17) (hk : k < 17) (hne : j ≠ k) (x y : Int) : (c.set j x).set k y = (c.set k y).set j x := by
  refine Cfg.eq_of (fun i hi => ?_) rfl
  rw [Cfg.get_set _ hk, Cfg.get_set _ hj, Cfg.get_set _ hj, Cfg.get_set _ hk]
  by_cases e1 : i = j
  · subst e1; simp [hne]
  · simp [e1]

/-- the least and the greatest -/
def los : List Int := [2, 1, 1, 1, 1, 1, 1, 1, 1, 1, 1, 1, 1, 0, 0, 1, 0]
def his : List Int := [32, 4, 8, 64, 8, 64, 65536, 1024, 1024, 65536, 16, 16, 64, 8, 1048576, 4, 4]
def lo (k : Nat) : Int := los.getD k 0
def hi (k : Nat) : Int := his.getD k 0
def okAt (c : Cfg) (k : Nat) : Bool := decide (lo k ≤ c.get k) && decide (c.get k ≤ hi k)
/-- the first j numbers can be -/
def okTo (c : Cfg) (j : Nat) : Bool := (List.range j).all (okAt c)
def okc (c : Cfg) : Bool := okTo c 17
theorem okTo_succ (c : Cfg) (j : Nat) : okTo c (j + 1) = (okTo c j && okAt c j) := by simp [okTo, List.range_succ]
theorem okTo_spec {c : Cfg} {j : Nat} : okTo c j = true ↔ ∀ k, k < j → lo k ≤ c.get k ∧ c.get k ≤ hi k := by
  simp [okTo, okAt]
theorem okc_spec {c : Cfg} : okc c = true ↔ ∀ k, k < 17 → lo k ≤ c.get k ∧ c.get k ≤ hi k := okTo_spec
theorem okc_false {c : Cfg} {k : Nat} (hk : k < 17) (h : okAt c k = false) : okc c = false := by
  cases e : okc c
  · rfl
  · have := okc_spec.1 e k hk
    simp [okAt] at h
    omega
theorem okAt_iff {c : Cfg} {k : Nat} : okAt c k = true ↔ lo k ≤ c.get k ∧ c.get k ≤ hi k := by simp [okAt]

/-- the names -/
def names : List ByteArray := [⟨#[102, 108, 111, 111, 114, 115]⟩, ⟨#[99, 97, 114, 115]⟩, ⟨#[115, 101, 97, 116, 115]⟩, ⟨#[99, 97, 108, 108, 115]⟩, ⟨#[108, 105, 110, 101, 115]⟩, ⟨#[107, 101, 121, 115]⟩, ⟨#[119, 105, 110, 100, 111, 119]⟩, ⟨#[98, 117, 114, 115, 116]⟩, ⟨#[114, 97, 116, 101]⟩, ⟨#[105, 100, 108, 101]⟩, ⟨#[105, 110]⟩, ⟨#[111, 117, 116]⟩, ⟨#[102, 101, 101, 100]⟩, ⟨#[114, 101, 116, 114, 105, 101, 115]⟩, ⟨#[108, 105, 102, 101]⟩, ⟨#[100, 111, 111, 114]⟩, ⟨#[104, 111, 108, 100, 115]⟩]
def nm (k : Nat) : ByteArray := names.getD k ⟨#[]⟩
theorem names_length : names.length = 17 := rfl
theorem nm_inj : ∀ j, j < 17 → ∀ k, k < 17 → nm j = nm k → j = k := by decide
theorem nm_get {k : Nat} (h : k < 17) : names[k]? = some (nm k) := by
  have hl : k < names.length := h
  simp [nm, hl]
/-- where a name stands: 17 if nowhere -/
def idx (s : ByteArray) : Nat := names.findIdx (fun x => decide (x = s))
theorem idx_nm {k : Nat} (h : k < 17) : idx (nm k) = k := by
  have : ∀ k, k < 17 → idx (nm k) = k := by decide
  exact this k h
theorem idx_le (s : ByteArray) : idx s ≤ 17 := List.findIdx_le_length (p := _) (xs := names)
theorem idx_lt {s : ByteArray} (h : idx s < 17) : nm (idx s) = s := by
  have hl : idx s < names.length := h
  have := List.findIdx_getElem (p := fun x => decide (x = s)) (xs := names) (w := hl)
  have e : names[idx s] = s := of_decide_eq_true this
  simp only [nm, List.getD_eq_getElem?_getD]
  rw [List.getElem?_eq_getElem hl]
  exact e
theorem idx_not {s : ByteArray} {j : Nat} (h : j < idx s) : nm j ≠ s := by
  have hj : j < 17 := Nat.lt_of_lt_of_le h (idx_le s)
  intro e
  rw [← e, idx_nm hj] at h
  omega
end Go.Proofs.Ytepfgheliddpmaa
