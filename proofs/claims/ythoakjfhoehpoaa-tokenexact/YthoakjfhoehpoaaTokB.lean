/- token: MayPlace, Is, and the document's own sum. -/
import Derived.Test.YthoakjfhoehpoaaTokA
namespace Go.Proofs.Ythoakjfhoehpoaa
open Go.RowKit Go.Lib

theorem may_lit (r k : Int) : may r k = if r = 1 then (k == 1 || k == 2 || k == 4) else if r = 2 then k == 4 else if r = 3 then (k == 1 || k == 2 || k == 3 || k == 4) else false := by
  unfold may
  by_cases h1 : r = 1
  · subst h1; simp
  by_cases h2 : r = 2
  · subst h2; simp
  by_cases h3 : r = 3
  · subst h3; simp
  simp [h1, h2, h3]
set_option maxHeartbeats 1000000 in
theorem place_any (r k : Int) (w : World) :
    Calls Try.prog 11 #[.int .i64 r, .int .i64 k] w fun e w' => e = .returned (.bool (may r k)) ∧ w = w' := by
  by_cases r1 : r = 1
  · subst r1
    by_cases k1 : k = 1
    · subst k1
      go_enter Try.func11, Try.ntmps11
      go_wp2
      go_ret
      exact ⟨rfl, rfl⟩
    by_cases k2 : k = 2
    · subst k2
      go_enter Try.func11, Try.ntmps11
      go_wp2
      go_ret
      exact ⟨rfl, rfl⟩
    by_cases k3 : k = 3
    · subst k3
      go_enter Try.func11, Try.ntmps11
      go_wp2
      go_ret
      exact ⟨rfl, rfl⟩
    by_cases k4 : k = 4
    · subst k4
      go_enter Try.func11, Try.ntmps11
      go_wp2
      go_ret
      exact ⟨rfl, rfl⟩
    have e1 : (k == 1) = false := by simp [k1]
    have e2 : (k == 2) = false := by simp [k2]
    have e3 : (k == 3) = false := by simp [k3]
    have e4 : (k == 4) = false := by simp [k4]
    have er : may 1 k = false := by unfold may; rw [e1, e2, e3, e4]; rfl
    rw [er]; clear er k1 k2 k3 k4
    go_enter Try.func11, Try.ntmps11
    go_wp2
    go_ret
    exact ⟨rfl, rfl⟩
  by_cases r2 : r = 2
  · subst r2
    by_cases k1 : k = 1
    · subst k1
      go_enter Try.func11, Try.ntmps11
      go_wp2
      go_ret
      exact ⟨rfl, rfl⟩
    by_cases k2 : k = 2
    · subst k2
      go_enter Try.func11, Try.ntmps11
      go_wp2
      go_ret
      exact ⟨rfl, rfl⟩
    by_cases k3 : k = 3
    · subst k3
      go_enter Try.func11, Try.ntmps11
      go_wp2
      go_ret
      exact ⟨rfl, rfl⟩
    by_cases k4 : k = 4
    · subst k4
      go_enter Try.func11, Try.ntmps11
      go_wp2
      go_ret
      exact ⟨rfl, rfl⟩
    have e1 : (k == 1) = false := by simp [k1]
    have e2 : (k == 2) = false := by simp [k2]
    have e3 : (k == 3) = false := by simp [k3]
    have e4 : (k == 4) = false := by simp [k4]
    have er : may 2 k = false := by unfold may; rw [e1, e2, e3, e4]; rfl
    rw [er]; clear er k1 k2 k3 k4
    go_enter Try.func11, Try.ntmps11
    go_wp2
    go_ret
    exact ⟨rfl, rfl⟩
  by_cases r3 : r = 3
  · subst r3
    by_cases k1 : k = 1
    · subst k1
      go_enter Try.func11, Try.ntmps11
      go_wp2
      go_ret
      exact ⟨rfl, rfl⟩
    by_cases k2 : k = 2
    · subst k2
      go_enter Try.func11, Try.ntmps11
      go_wp2
      go_ret
      exact ⟨rfl, rfl⟩
    by_cases k3 : k = 3
    · subst k3
      go_enter Try.func11, Try.ntmps11
      go_wp2
      go_ret
      exact ⟨rfl, rfl⟩
    by_cases k4 : k = 4
    · subst k4
      go_enter Try.func11, Try.ntmps11
      go_wp2
      go_ret
      exact ⟨rfl, rfl⟩
    have e1 : (k == 1) = false := by simp [k1]
    have e2 : (k == 2) = false := by simp [k2]
    have e3 : (k == 3) = false := by simp [k3]
    have e4 : (k == 4) = false := by simp [k4]
    have er : may 3 k = false := by unfold may; rw [e1, e2, e3, e4]; rfl
    rw [er]; clear er k1 k2 k3 k4
    go_enter Try.func11, Try.ntmps11
    go_wp2
    go_ret
    exact ⟨rfl, rfl⟩
  have e1 : (r == 1) = false := by simp [r1]
  have e2 : (r == 2) = false := by simp [r2]
  have e3 : (r == 3) = false := by simp [r3]
  have er : may r k = false := by unfold may; rw [e1, e2, e3]; rfl
  rw [er]; clear er
  go_enter Try.func11, Try.ntmps11
  go_wp2
  go_ret
  exact ⟨rfl, rfl⟩

set_option maxHeartbeats 1000000 in
theorem is_any (s who role t : Int) (w : World) (h0 : 0 ≤ s) (h1 : s < 4294967296) :
    Calls Try.prog 10 #[.int .u32 s, .int .i64 who, .int .i64 role, .int .u32 t] w fun e w' => e = .returned (.bool (isT s who role t)) ∧ w = w' := by
  by_cases a : who < 1
  · have e1 : decide (1 ≤ who) = false := by simp; omega
    have er : isT s who role t = false := by unfold isT; rw [e1]; rfl
    rw [er]; clear er
    go_enter Try.func10, Try.ntmps10
    go_wp2
    go_ret
    exact ⟨rfl, rfl⟩
  have e1 : decide (1 ≤ who) = true := by simp; omega
  by_cases b : 1073741824 < who
  · have e2 : decide (who ≤ 1073741824) = false := by simp; omega
    have er : isT s who role t = false := by unfold isT; rw [e1, e2]; rfl
    rw [er]; clear er
    go_enter Try.func10, Try.ntmps10
    go_wp2
    go_ret
    exact ⟨rfl, rfl⟩
  have e2 : decide (who ≤ 1073741824) = true := by simp; omega
  by_cases c : isR role = false
  · have er : isT s who role t = false := by unfold isT; rw [e1, e2, c]; rfl
    rw [er]; clear er
    have CH := Lib.hid c; clear c
    go_enter Try.func10, Try.ntmps10
    go_wp2_with fail
    refine (role_any role _).mono ?_
    rintro e w' ⟨rfl, rfl⟩
    rw [CH.out]
    go_wp2
    go_ret
    exact ⟨rfl, rfl⟩
  have c : isR role = true := by simpa using c
  have er : isT s who role t = (t == N (tk s who role)) := by unfold isT; rw [e1, e2, c]; rfl
  rw [er]; clear er
  have CH := Lib.hid c; clear c
  go_enter Try.func10, Try.ntmps10
  go_wp2_with fail
  refine (role_any role _).mono ?_
  rintro e w' ⟨rfl, rfl⟩
  rw [CH.out]
  go_wp2_with fail
  refine (of_any s who role _ h0 h1).mono ?_
  rintro e w' ⟨rfl, rfl⟩
  go_wp2
  go_ret
  exact ⟨rfl, rfl⟩

end Go.Proofs.Ythoakjfhoehpoaa
