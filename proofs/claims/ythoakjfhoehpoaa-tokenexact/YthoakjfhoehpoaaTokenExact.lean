/- TokenExact's walk, its ways put together. -/
import Derived.Test.YthoakjfhoehpoaaTokE1
import Derived.Test.YthoakjfhoehpoaaTokE2
import Derived.Test.YthoakjfhoehpoaaTokE3
namespace Go.Proofs.Ythoakjfhoehpoaa
open Go.RowKit Go.Lib

theorem may1 {k : Int} (a : (k == 1) = false) (b : (k == 2) = false) (c : (k == 4) = false) : may 1 k = false := by
  unfold may; rw [a, b, c]; rfl
theorem may2 {k : Int} (c : (k == 4) = false) : may 2 k = false := by
  unfold may; rw [c]; rfl
theorem may3_out {k : Int} (h : k ≤ 0 ∨ 5 ≤ k) : may 3 k = false := by
  have e1 : (k == 1) = false := by rw [beq_eq_false_iff_ne]; omega
  have e2 : (k == 2) = false := by rw [beq_eq_false_iff_ne]; omega
  have e3 : (k == 3) = false := by rw [beq_eq_false_iff_ne]; omega
  have e4 : (k == 4) = false := by rw [beq_eq_false_iff_ne]; omega
  unfold may; rw [e1, e2, e3, e4]; rfl
theorem may3_in {k : Int} (h0 : 0 < k) (h1 : k < 5) : may 3 k = true := by
  have : k = 1 ∨ k = 2 ∨ k = 3 ∨ k = 4 := by omega
  rcases this with rfl | rfl | rfl | rfl <;> rfl
theorem mayN {r k : Int} (h1 : (r == 1) = false) (h2 : (r == 2) = false) (h3 : (r == 3) = false) : may r k = false := by
  unfold may; rw [h1, h2, h3]; rfl
theorem ne_b {a b : Int} (h : a ≠ b) : (a == b) = false := beq_eq_false_iff_ne.2 h

theorem token_exact (s who role t kind : Int) (w : World) (h0 : 0 ≤ s) (h1 : s < 4294967296) :
    Calls Try.prog 3 #[.int .u32 s, .int .i64 who, .int .i64 role, .int .u32 t, .int .i64 kind] w fun e w' => e = .returned (.bool true) ∧ Grown w w' := by
  by_cases r1 : role = 1
  · subst r1
    by_cases k1 : kind = 1
    · exact exact_1_1 s who t kind w h0 h1 k1 (by rw [k1]; rfl)
    by_cases k2 : kind = 2
    · exact exact_1_2 s who t kind w h0 h1 k2 (by rw [k2]; rfl)
    by_cases k4 : kind = 4
    · exact exact_1_4 s who t kind w h0 h1 k4 (by rw [k4]; rfl)
    exact exact_1 s who t kind w h0 h1 (ne_b k1) (ne_b k2) (ne_b k4) (may1 (ne_b k1) (ne_b k2) (ne_b k4))
  by_cases r2 : role = 2
  · subst r2
    by_cases k4 : kind = 4
    · exact exact_2_4 s who t kind w h0 h1 k4 (by rw [k4]; rfl)
    exact exact_2 s who t kind w h0 h1 (ne_b k4) (may2 (ne_b k4))
  by_cases r3 : role = 3
  · subst r3
    by_cases k0 : kind ≤ 0
    · exact exact_3_lo s who t kind w h0 h1 (by simp; omega) (may3_out (Or.inl k0))
    by_cases k5 : 5 ≤ kind
    · exact exact_3_hi s who t kind w h0 h1 (by simp; omega) (by simp; omega) (may3_out (Or.inr k5))
    exact exact_3_ok s who t kind w h0 h1 (by simp; omega) (by simp; omega) (may3_in (by omega) (by omega))
  by_cases hl : 0 < role
  · exact exact_hi s who role t kind w h0 h1 (ne_b r1) (ne_b r2) (ne_b r3) (by simp; omega) (by simp; omega) (mayN (ne_b r1) (ne_b r2) (ne_b r3))
  · exact exact_no s who role t kind w h0 h1 (ne_b r1) (ne_b r2) (ne_b r3) (by simp; omega) (mayN (ne_b r1) (ne_b r2) (ne_b r3))
end Go.Proofs.Ythoakjfhoehpoaa
