/- Words for FrameTurned: a row of bytes of which four are turned one by one. -/
import Derived.Test.YtakooppceifamaaFrmE
import Derived.Laws.BitsAllLaws
namespace Go.Proofs.Ytakooppceifamaa
open Go.RowKit Go.Lib Plain

def cellsB (l : List UInt8) : List Value := l.map (fun x => Value.int .u8 (x.toNat : Int))
theorem conv_row (w : World) (g n c : Nat) (ns : List UInt8) (hn : ns.length = n) (hc : ∀ j v, (cellsB ns)[j]? = some v → w.cell? ⟨g, j, none⟩ = some v) :
    (convert 42 9 (.slice (some ⟨g, 0, none⟩) n c)).run Try.prog w = .ok (.string (textOf ns)) w := by
  rw [run_convert_bytes_string w 42 9 5 _ _ _ Try.underlying42 Try.underlying5 Try.underlying9]
  have e : cellsB ns = (ns.map (fun x => (x.toNat : Int))).map (Value.int .u8) := by simp [cellsB]
  have hl : (cellsB ns).length = n := by simp [cellsB, hn]
  have h := run_loadCells_list (P := Try.prog) (w := w) ⟨g, 0, none⟩ (cellsB ns) (fun j v h => by cases j <;> simpa [Addr.add] using hc _ v h)
  rw [hl] at h
  rw [run_bytesToString w ⟨g, 0, none⟩ n c (ns.map (fun x => (x.toNat : Int))) (by rw [h, e]), foldl_push]
  simp [textOf]
structure Fb (w wx : World) (bb g : Nat) (bs l : List UInt8) : Prop where
  cells : ∀ i v, (cellsB l)[i]? = some v → wx.cell? ⟨g, i, none⟩ = some v
  free : ∀ i, i < l.length → wx.frozen? ⟨g, i, none⟩ = false
  bys : ∀ i v, (cellsB bs)[i]? = some v → wx.cell? ⟨bb, i, none⟩ = some v
  ne : bb < g
  lt : g < wx.heap.size
  below : Below w.heap.size w wx
  le : w.heap.size ≤ bb
theorem Fb.drew {w wx : World} {bb g : Nat} {bs l : List UInt8} (h : Fb w wx bb g bs l) : Fb w wx.drew bb g bs l := ⟨h.cells, h.free, h.bys, h.ne, h.lt, h.below.drew, h.le⟩
theorem Fb.alloc {w wx : World} {bb g : Nat} {bs l : List UInt8} (h : Fb w wx bb g bs l) (o : Obj) : Fb w (wx.alloc o) bb g bs l := by
  have hb := (Below.refl wx.heap.size wx).alloc (Nat.le_refl _) o
  exact ⟨fun i v hv => by rw [hb.cell (by exact h.lt)]; exact h.cells i v hv, fun i hi => by rw [hb.frozen (by exact h.lt)]; exact h.free i hi,
    fun i v hv => by rw [hb.cell (by exact Nat.lt_trans h.ne h.lt)]; exact h.bys i v hv, h.ne, Nat.lt_of_lt_of_le h.lt hb.size, h.below.alloc (by have := h.le; have := h.ne; have := h.lt; omega) o, h.le⟩
theorem cellsB_get (l : List UInt8) (i : Nat) (h : i < l.length) : (cellsB l)[i]? = some (.int .u8 (l[i].toNat : Int)) := by simp [cellsB, h]
theorem Fb.store {w wx : World} {bb g : Nat} {bs l : List UInt8} (h : Fb w wx bb g bs l) (i : Nat) (hi : i < l.length) (c : UInt8) : Fb w (wx.setCell ⟨g, i, none⟩ (.int .u8 (c.toNat : Int))) bb g bs (l.set i c) := by
  have hc := h.cells i _ (cellsB_get l i hi)
  refine ⟨fun j v hv => ?_, fun j hj => ?_, fun j v hv => ?_, h.ne, by simpa [World.setCell] using h.lt, h.below.setCell (by show w.heap.size ≤ g; have := h.le; have := h.ne; omega) _, h.le⟩
  · have e : cellsB (l.set i c) = (cellsB l).set i (.int .u8 (c.toNat : Int)) := by simp [cellsB, List.map_set]
    rw [e, List.getElem?_set] at hv
    by_cases hij : i = j
    · subst hij
      have hl : i < (cellsB l).length := by simp [cellsB, hi]
      simp [hl] at hv
      rw [← hv]
      exact World.cell?_setCell_same _ _ _ hc
    · simp [hij] at hv
      have := h.cells j v hv
      rw [World.cell?_setCell_other _ _ _ _ (by simp)]; exact this
  · rw [World.frozen?_setCell]; exact h.free j (by simpa using hj)
  · have hne : g ≠ bb := by have := h.ne; omega
    rw [World.cell?_setCell_other _ _ _ _ (by simp)]; exact h.bys j v hv

def mix (og bs : List UInt8) (j : Nat) : List UInt8 := List.zipWith (· ^^^ ·) (og.take j) (bs.take j) ++ og.drop j
theorem mix_step (l m : List UInt8) (a b c d x y z t : UInt8) (j : Nat) (hj : j < 4) :
    ∃ p q : UInt8, (l ++ mix [a, b, c, d] [x, y, z, t] j ++ m)[l.length + j]? = some p ∧ [x, y, z, t][j]? = some q ∧
      (l ++ mix [a, b, c, d] [x, y, z, t] j ++ m).set (l.length + j) (p ^^^ q) = l ++ mix [a, b, c, d] [x, y, z, t] (j + 1) ++ m := by
  obtain rfl | rfl | rfl | rfl : j = 0 ∨ j = 1 ∨ j = 2 ∨ j = 3 := by omega
  · exact ⟨a, x, by simp [mix], rfl, by simp [mix]⟩
  · exact ⟨b, y, by simp [mix], rfl, by simp [mix]⟩
  · exact ⟨c, z, by simp [mix], rfl, by simp [mix]⟩
  · exact ⟨d, t, by simp [mix], rfl, by simp [mix]⟩
theorem mix_length (l m : List UInt8) (a b c d x y z t : UInt8) (j : Nat) (hj : j ≤ 4) : (l ++ mix [a, b, c, d] [x, y, z, t] j ++ m).length = l.length + 4 + m.length := by
  obtain rfl | rfl | rfl | rfl | rfl : j = 0 ∨ j = 1 ∨ j = 2 ∨ j = 3 ∨ j = 4 := by omega
  all_goals (simp [mix]; omega)
theorem four_of (l : List UInt8) (k : Nat) (h : k + 4 ≤ l.length) : ∃ p m a b c d, l = p ++ [a, b, c, d] ++ m ∧ p.length = k := by
  have e : l = l.take k ++ l.drop k := (List.take_append_drop k l).symm
  have hl : (l.drop k).length = l.length - k := by simp
  match hd : l.drop k, hl with
  | a :: b :: c :: d :: m, _ => exact ⟨l.take k, m, a, b, c, d, by rw [hd] at e; simpa using e, by simp; omega⟩
  | [], hl => simp at hl; omega
  | [_], hl => simp at hl; omega
  | [_, _], hl => simp at hl; omega
  | [_, _, _], hl => simp at hl; omega

def noTurn (x y z t : UInt8) : Bool := decide (x = 0 ∧ y = 0 ∧ z = 0 ∧ t = 0)
end Go.Proofs.Ytakooppceifamaa
