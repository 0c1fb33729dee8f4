/- Greater buildings are given more time: the plain mathematics. No Go text. -/
import Derived.Test.YthnjghkloodblaaTrip
namespace Go.Proofs.Ythnjghkloodblaa
open Go.RowKit Go.Lib
set_option linter.unusedVariables false
set_option linter.unusedSimpArgs false

/-- the numbers that make a ride longer, and those that make an answer later -/
def growK (j : Nat) : Nat := [0, 3, 15, 16].getD j 0
def waitK (j : Nat) : Nat := [13, 10, 11].getD j 0
theorem growK_in : ∀ j, j < 4 → growK j = 0 ∨ growK j = 3 ∨ growK j = 15 ∨ growK j = 16 := by decide
theorem waitK_in : ∀ j, j < 3 → waitK j = 13 ∨ waitK j = 10 ∨ waitK j = 11 := by decide
theorem growK_lt : ∀ j, j < 4 → growK j < 17 := by decide
theorem waitK_lt : ∀ j, j < 3 → waitK j < 17 := by decide
theorem trp_pos {c : Cfg} (h : okc c = true) : 0 < trp c := by
  have e : trp c = 2 * c.get 0 * (c.get 15 + c.get 16 + 3) := if_pos h
  have h0 : (2 : Int) ≤ c.get 0 ∧ c.get 0 ≤ 32 := ok_at h (by decide); have h1 : (1 : Int) ≤ c.get 15 ∧ c.get 15 ≤ 4 := ok_at h (by decide); have h2 : (0 : Int) ≤ c.get 16 ∧ c.get 16 ≤ 4 := ok_at h (by decide)
  rw [e]
  exact Int.mul_pos (by omega) (by omega)
theorem rid_pos {c : Cfg} (h : okc c = true) : 0 < rid c := by
  have h3 : (1 : Int) ≤ c.get 3 ∧ c.get 3 ≤ 64 := ok_at h (by decide)
  exact Int.mul_pos (by omega) (trp_pos h)
theorem rid_grows {c : Cfg} {K : Nat} (hK : K = 0 ∨ K = 3 ∨ K = 15 ∨ K = 16) (h : okc c = true) (hd : okc (c.set K (c.get K + 1)) = true) : rid c < rid (c.set K (c.get K + 1)) := by
  have g : ∀ j, (c.set K (c.get K + 1)).get j = if j = K then c.get K + 1 else c.get j := c.get_set (by omega) _
  have h0 : (2 : Int) ≤ c.get 0 ∧ c.get 0 ≤ 32 := ok_at h (by decide); have h1 : (1 : Int) ≤ c.get 15 ∧ c.get 15 ≤ 4 := ok_at h (by decide); have h2 : (0 : Int) ≤ c.get 16 ∧ c.get 16 ≤ 4 := ok_at h (by decide)
  have h3 : (1 : Int) ≤ c.get 3 ∧ c.get 3 ≤ 64 := ok_at h (by decide)
  have hp := trp_pos h
  have e : trp c = 2 * c.get 0 * (c.get 15 + c.get 16 + 3) := if_pos h
  have e' : trp (c.set K (c.get K + 1)) = 2 * (c.set K (c.get K + 1)).get 0 * ((c.set K (c.get K + 1)).get 15 + (c.set K (c.get K + 1)).get 16 + 3) := if_pos hd
  unfold rid
  rw [e', e]
  rw [e] at hp
  clear e e' h hd
  rw [g 0, g 3, g 15, g 16]
  rcases hK with rfl | rfl | rfl | rfl
  · simp only [if_true, show ¬ (3 : Nat) = 0 by omega, show ¬ (15 : Nat) = 0 by omega, show ¬ (16 : Nat) = 0 by omega, if_false]
    exact Int.mul_lt_mul_of_pos_left (Int.mul_lt_mul_of_pos_right (by omega) (by omega)) (by omega)
  · simp only [if_true, show ¬ (0 : Nat) = 3 by omega, show ¬ (15 : Nat) = 3 by omega, show ¬ (16 : Nat) = 3 by omega, if_false]
    exact Int.mul_lt_mul_of_pos_right (by omega) hp
  · simp only [if_true, show ¬ (0 : Nat) = 15 by omega, show ¬ (3 : Nat) = 15 by omega, show ¬ (16 : Nat) = 15 by omega, if_false]
    exact Int.mul_lt_mul_of_pos_left (Int.mul_lt_mul_of_pos_left (by omega) (by omega)) (by omega)
  · simp only [if_true, show ¬ (0 : Nat) = 16 by omega, show ¬ (3 : Nat) = 16 by omega, show ¬ (15 : Nat) = 16 by omega, if_false]
    exact Int.mul_lt_mul_of_pos_left (Int.mul_lt_mul_of_pos_left (by omega) (by omega)) (by omega)
theorem ans_grows {c : Cfg} {K : Nat} (hK : K = 13 ∨ K = 10 ∨ K = 11) (h : okc c = true) (hd : okc (c.set K (c.get K + 1)) = true) : ans c < ans (c.set K (c.get K + 1)) := by
  have g : ∀ j, (c.set K (c.get K + 1)).get j = if j = K then c.get K + 1 else c.get j := c.get_set (by omega) _
  have h0 : (1 : Int) ≤ c.get 10 ∧ c.get 10 ≤ 16 := ok_at h (by decide); have h1 : (0 : Int) ≤ c.get 13 ∧ c.get 13 ≤ 8 := ok_at h (by decide); have h2 : (1 : Int) ≤ c.get 11 ∧ c.get 11 ≤ 16 := ok_at h (by decide)
  have e : ans c = (c.get 10 + 1) * (2 * c.get 13 + 12) + c.get 11 := if_pos h
  have e' : ans (c.set K (c.get K + 1)) = ((c.set K (c.get K + 1)).get 10 + 1) * (2 * (c.set K (c.get K + 1)).get 13 + 12) + (c.set K (c.get K + 1)).get 11 := if_pos hd
  rw [e', e]
  clear e e' h hd
  rw [g 10, g 13, g 11]
  rcases hK with rfl | rfl | rfl
  · simp only [if_true, show ¬ (10 : Nat) = 13 by omega, show ¬ (11 : Nat) = 13 by omega, if_false]
    exact Int.add_lt_add_right (Int.mul_lt_mul_of_pos_left (by omega) (by omega)) _
  · simp only [if_true, show ¬ (13 : Nat) = 10 by omega, show ¬ (11 : Nat) = 10 by omega, if_false]
    exact Int.add_lt_add_right (Int.mul_lt_mul_of_pos_right (by omega) (by omega)) _
  · simp only [if_true, show ¬ (10 : Nat) = 11 by omega, show ¬ (13 : Nat) = 11 by omega, if_false]
    omega
theorem lo_hi : ∀ k, k < 17 → lo k ≤ hi k ∧ 0 ≤ lo k ∧ lo k ≤ 2 ∧ hi k ≤ 2000000 := by decide
theorem okc_lo {c : Cfg} {k : Nat} (h : okc c = true) (hk : k < 17) : okc (c.set k (lo k)) = true := by
  rw [okc_spec]
  intro j hj
  rw [c.get_set hk]
  by_cases e : j = k
  · subst e; simp; exact (lo_hi j hj).1
  · simp only [e, if_false]; exact ok_at h hj
theorem okc_less (c : Cfg) {k : Nat} (hk : k < 17) : okc (c.set k (lo k - 1)) = false := by
  refine okc_false hk ?_
  simp only [okAt, c.get_same hk]
  simp
  omega
theorem inc_in {c : Cfg} (h : okc c = true) {k : Nat} (hk : k < 17) : wrap64 (c.get k + 1) = c.get k + 1 := by
  have h1 := ok_at h hk; have h2 := lo_hi k hk
  exact wrap_in (by omega) (by omega)
theorem dec_in {k : Nat} (hk : k < 17) : wrap64 (lo k - 1) = lo k - 1 := by
  have h2 := lo_hi k hk
  exact wrap_in (by omega) (by omega)
end Go.Proofs.Ythnjghkloodblaa
