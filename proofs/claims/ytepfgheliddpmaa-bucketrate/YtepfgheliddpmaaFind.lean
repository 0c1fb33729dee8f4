/- The place of the number of a name. -/
import Derived.Test.YtepfgheliddpmaaNum
namespace Go.Proofs.Ytepfgheliddpmaa
open Go.RowKit Go.Lib
set_option linter.unusedVariables false

theorem toList_inj {a b : ByteArray} (h : a.toList = b.toList) : a = b := by
  rw [ByteArray.toList_eq, ByteArray.toList_eq] at h
  cases a; cases b; simp at h; subst h; rfl
theorem text_ne {a b : ByteArray} (h : a ≠ b) : (a.toList == b.toList) = false := by
  rw [beq_eq_false_iff_ne]
  exact fun e => h (toList_inj e)
theorem below_new (w : World) (o : Obj) : Below w.heap.size w (w.alloc o) := (Below.refl _ _).alloc (Nat.le_refl _) _
/-- the four cells of a row -/
theorem num_cells {w : World} {g j : Nat} (h : At w g 55 NUM) (hj : j < 17) : w.cell? ⟨g, j * 4, none⟩ = some (.string (nm j)) ∧ w.cell? ⟨g, j * 4 + 1, none⟩ = some (.int .i64 (lo j)) ∧ w.cell? ⟨g, j * 4 + 2, none⟩ = some (.int .i64 (hi j)) ∧ w.cell? ⟨g, j * 4 + 3, none⟩ = some (.func (.func (24 + j)) #[] #[]) := by
  obtain ⟨h0, h1, h2, h3⟩ := NUM_at j hj
  rw [Nat.mul_comm j 4]
  exact ⟨by rw [h.cell]; exact h0, by rw [h.cell]; exact h1, by rw [h.cell]; exact h2, by rw [h.cell]; exact h3⟩
theorem store_fn : ∀ (fn : Fn) (x y : Array Value) (W : World) (a : Addr) (m : Mode), (store a (.func fn x y) m).run Try.prog W = stored Try.prog W a (.func fn x y) m := fun _ _ _ W a m => run_store _ W a _ m rfl
set_option maxRecDepth 100000 in
theorem call_fn (j : Nat) (hj : j < 17) (args : Array Value) (W : World) : (callFunc (24 + j) args).run Try.prog W = .ok (.enter (24 + j) args) W := by
  match j, hj with
  | 0, _ => rfl
  | 1, _ => rfl
  | 2, _ => rfl
  | 3, _ => rfl
  | 4, _ => rfl
  | 5, _ => rfl
  | 6, _ => rfl
  | 7, _ => rfl
  | 8, _ => rfl
  | 9, _ => rfl
  | 10, _ => rfl
  | 11, _ => rfl
  | 12, _ => rfl
  | 13, _ => rfl
  | 14, _ => rfl
  | 15, _ => rfl
  | 16, _ => rfl
  | n + 17, h => exact absurd h (by omega)
end Go.Proofs.Ytepfgheliddpmaa
