/- TokenRoles' walk. -/
import Derived.Test.YthoakjfhoehpoaaTokD
namespace Go.Proofs.Ythoakjfhoehpoaa
open Go.RowKit Go.Lib

theorem tk_role {s who a b : Int} (ha : 0 ≤ a ∧ a < 256) (hb : 0 ≤ b ∧ b < 256) (h : a ≠ b) : (N (tk s who a) == N (tk s who b)) = false := by
  rw [beq_eq_false_iff_ne]
  intro e
  have := stp_right (by omega) (by omega) (N_inj.1 e)
  omega
theorem isT_no {s who role x : Int} (h : (x == N (tk s who role)) = false) : isT s who role x = false := by
  unfold isT; rw [h, Bool.and_false]
theorem may_no (r k : Int) (h : k ≤ 0 ∨ 5 ≤ k) : may r k = false := by
  have e1 : (k == 1) = false := by rw [beq_eq_false_iff_ne]; omega
  have e2 : (k == 2) = false := by rw [beq_eq_false_iff_ne]; omega
  have e3 : (k == 3) = false := by rw [beq_eq_false_iff_ne]; omega
  have e4 : (k == 4) = false := by rw [beq_eq_false_iff_ne]; omega
  unfold may; rw [e1, e2, e3, e4]; simp
theorem may_all (k : Int) (h0 : 0 < k) (h1 : k < 5) : may 3 k = true := by
  have : k = 1 ∨ k = 2 ∨ k = 3 ∨ k = 4 := by omega
  rcases this with rfl | rfl | rfl | rfl <;> rfl
theorem may_none (r k : Int) (h1 : (r == 1) = false) (h2 : (r == 2) = false) (h3 : (r == 3) = false) : may r k = false := by
  unfold may; rw [h1, h2, h3]; rfl

set_option maxHeartbeats 4000000 in
theorem roles_any (s who k : Int) (w : World) (h0 : 0 ≤ s) (h1 : s < 4294967296) :
    Calls Try.prog 4 #[.int .u32 s, .int .i64 who, .int .i64 k] w fun e w' => e = .returned (.bool true) ∧ w = w' := by
  have OF := Lib.hid (fun role v w hv => of_is s who role v w h0 h1 hv)
  have PA := Lib.hid (fun w => pass_any s who w h0 h1)
  have IS := Lib.hid (fun role t b w hb => is_is s who role t b w h0 h1 hb)
  clear h0 h1
  have e12 : (N (tk s who 1) == N (tk s who 2)) = false := tk_role (by omega) (by omega) (by omega)
  have e13 : (N (tk s who 1) == N (tk s who 3)) = false := tk_role (by omega) (by omega) (by omega)
  have e23 : (N (tk s who 2) == N (tk s who 3)) = false := tk_role (by omega) (by omega) (by omega)
  have ep1 : (N (tk s who 255) == N (tk s who 1)) = false := tk_role (by omega) (by omega) (by omega)
  have ep2 : (N (tk s who 255) == N (tk s who 2)) = false := tk_role (by omega) (by omega) (by omega)
  have ep3 : (N (tk s who 255) == N (tk s who 3)) = false := tk_role (by omega) (by omega) (by omega)
  have I3 := Lib.hid (isT_no (s := s) (who := who) (role := 3) e13)
  have I1 := Lib.hid (isT_no (s := s) (who := who) (role := 1) ep1)
  have T1 : Hid (∀ w, Calls Try.prog 8 #[.int .u32 s, .int .i64 who, .int .i64 1] w fun e w' => e = .returned (.int .u32 (N (tk s who 1))) ∧ w = w') := Lib.hid (fun w => OF.out 1 _ w rfl)
  have T2 : Hid (∀ w, Calls Try.prog 8 #[.int .u32 s, .int .i64 who, .int .i64 2] w fun e w' => e = .returned (.int .u32 (N (tk s who 2))) ∧ w = w') := Lib.hid (fun w => OF.out 2 _ w rfl)
  have T3 : Hid (∀ w, Calls Try.prog 8 #[.int .u32 s, .int .i64 who, .int .i64 3] w fun e w' => e = .returned (.int .u32 (N (tk s who 3))) ∧ w = w') := Lib.hid (fun w => OF.out 3 _ w rfl)
  have J3 : Hid (∀ w, Calls Try.prog 10 #[.int .u32 s, .int .i64 who, .int .i64 3, .int .u32 (N (tk s who 1))] w fun e w' => e = .returned (.bool false) ∧ w = w') := Lib.hid (fun w => IS.out 3 _ _ w I3.out)
  have J1 : Hid (∀ w, Calls Try.prog 10 #[.int .u32 s, .int .i64 who, .int .i64 1, .int .u32 (N (tk s who 255))] w fun e w' => e = .returned (.bool false) ∧ w = w') := Lib.hid (fun w => IS.out 1 _ _ w I1.out)
  clear OF IS I3 I1
  generalize N (tk s who 1) = t1 at *
  generalize N (tk s who 2) = t2 at *
  generalize N (tk s who 3) = t3 at *
  generalize N (tk s who 255) = tp at *
  go_enter Try.func4, Try.ntmps4
  go_wp2_with fail
  refine (awake_any _).mono ?_
  rintro e w' ⟨rfl, rfl⟩
  go_wp2_with fail
  refine (T1.out _).mono ?_
  rintro e w' ⟨rfl, rfl⟩
  go_wp2_with fail
  refine (T2.out _).mono ?_
  rintro e w' ⟨rfl, rfl⟩
  go_wp2_with fail
  refine (T3.out _).mono ?_
  rintro e w' ⟨rfl, rfl⟩
  go_wp2_with fail
  refine (PA.out _).mono ?_
  rintro e w' ⟨rfl, rfl⟩
  go_wp2_with fail
  refine (J3.out _).mono ?_
  rintro e w' ⟨rfl, rfl⟩
  go_wp2_with fail
  refine (J1.out _).mono ?_
  rintro e w' ⟨rfl, rfl⟩
  go_wp2_with fail
  clear T1 T2 T3 PA J3 J1 e12 e13 e23 ep1 ep2 ep3
  go_loopg [11] 7 (fun gh s11 wx => ∃ j : Nat, j ≤ 7 ∧ gh = 7 - j ∧ s11 = .int .i64 ((j : Int) - 1) ∧ w = wx)
  case atStart => exact ⟨0, by omega, rfl, rfl, rfl⟩
  case round =>
    obtain ⟨j, hj, hg, rfl, rfl⟩ := hrel
    have HG := Lib.hid hg; clear hg
    by_cases h7 : j = 7
    · subst h7
      go_wp2
      go_ret
      exact ⟨rfl, rfl⟩
    have hj7 : j < 7 := by omega
    clear h7 hj
    by_cases h0 : j = 0
    · subst h0
      clear hj7
      have HM := Lib.hid (may_none (-1) k rfl rfl rfl)
      go_wp2_with fail
      refine (set_is (-1) false _ rfl).mono ?_
      rintro e w' ⟨rfl, rfl⟩
      go_wp2_with fail
      refine (place_is (-1) k false _ HM.out).mono ?_
      rintro e w' ⟨rfl, rfl⟩
      go_wp2_with fail
      go_roundg 6
      case measure => have := HG.out; omega
      case rel => exact ⟨1, by omega, rfl, rfl, rfl⟩
    by_cases h1 : j = 1
    · subst h1
      clear hj7
      have HM := Lib.hid (may_none 0 k rfl rfl rfl)
      go_wp2_with fail
      refine (set_is 0 false _ rfl).mono ?_
      rintro e w' ⟨rfl, rfl⟩
      go_wp2_with fail
      refine (place_is 0 k false _ HM.out).mono ?_
      rintro e w' ⟨rfl, rfl⟩
      go_wp2_with fail
      go_roundg 5
      case measure => have := HG.out; omega
      case rel => exact ⟨2, by omega, rfl, rfl, rfl⟩
    by_cases h2 : j = 2
    · subst h2
      clear hj7
      by_cases ka : k ≤ 0
      · have HM := Lib.hid (may_no 1 k (Or.inl ka))
        have d1 : decide (0 < k) = false := by simp; omega
        have d2 : decide (k < 1) = true := by simp; omega
        clear ka
        go_wp2_with fail
        refine (set_is 1 false _ rfl).mono ?_
        rintro e w' ⟨rfl, rfl⟩
        go_wp2_with fail
        refine (place_is 1 k false _ HM.out).mono ?_
        rintro e w' ⟨rfl, rfl⟩
        go_wp2_with fail
        go_roundg 4
        case measure => have := HG.out; omega
        case rel => exact ⟨3, by omega, rfl, rfl, rfl⟩
      by_cases kb : 5 ≤ k
      · have HM := Lib.hid (may_no 1 k (Or.inr kb))
        have d1 : decide (0 < k) = true := by simp; omega
        have d2 : decide (k < 5) = false := by simp; omega
        have d3 : decide (k < 1) = false := by simp; omega
        have d4 : decide (4 < k) = true := by simp; omega
        clear ka kb
        go_wp2_with fail
        refine (set_is 1 false _ rfl).mono ?_
        rintro e w' ⟨rfl, rfl⟩
        go_wp2_with fail
        refine (place_is 1 k false _ HM.out).mono ?_
        rintro e w' ⟨rfl, rfl⟩
        go_wp2_with fail
        go_roundg 4
        case measure => have := HG.out; omega
        case rel => exact ⟨3, by omega, rfl, rfl, rfl⟩
      have d1 : decide (0 < k) = true := by simp; omega
      have d2 : decide (k < 5) = true := by simp; omega
      have d3 : decide (k < 1) = false := by simp; omega
      have d4 : decide (4 < k) = false := by simp; omega
      clear ka kb
      cases hm : may 1 k
      · have HM := Lib.hid hm; clear hm
        go_wp2_with fail
        refine (set_is 1 false _ rfl).mono ?_
        rintro e w' ⟨rfl, rfl⟩
        go_wp2_with fail
        refine (place_is 1 k false _ HM.out).mono ?_
        rintro e w' ⟨rfl, rfl⟩
        go_wp2_with fail
        go_roundg 4
        case measure => have := HG.out; omega
        case rel => exact ⟨3, by omega, rfl, rfl, rfl⟩
      · have HM := Lib.hid hm; clear hm
        go_wp2_with fail
        refine (set_is 1 false _ rfl).mono ?_
        rintro e w' ⟨rfl, rfl⟩
        go_wp2_with fail
        refine (place_is 1 k true _ HM.out).mono ?_
        rintro e w' ⟨rfl, rfl⟩
        go_wp2_with fail
        go_roundg 4
        case measure => have := HG.out; omega
        case rel => exact ⟨3, by omega, rfl, rfl, rfl⟩
    by_cases h3 : j = 3
    · subst h3
      clear hj7
      by_cases ka : k ≤ 0
      · have HM := Lib.hid (may_no 2 k (Or.inl ka))
        have d1 : decide (0 < k) = false := by simp; omega
        have d2 : decide (k < 1) = true := by simp; omega
        clear ka
        go_wp2_with fail
        refine (set_is 2 false _ rfl).mono ?_
        rintro e w' ⟨rfl, rfl⟩
        go_wp2_with fail
        refine (place_is 2 k false _ HM.out).mono ?_
        rintro e w' ⟨rfl, rfl⟩
        go_wp2_with fail
        go_roundg 3
        case measure => have := HG.out; omega
        case rel => exact ⟨4, by omega, rfl, rfl, rfl⟩
      by_cases kb : 5 ≤ k
      · have HM := Lib.hid (may_no 2 k (Or.inr kb))
        have d1 : decide (0 < k) = true := by simp; omega
        have d2 : decide (k < 5) = false := by simp; omega
        have d3 : decide (k < 1) = false := by simp; omega
        have d4 : decide (4 < k) = true := by simp; omega
        clear ka kb
        go_wp2_with fail
        refine (set_is 2 false _ rfl).mono ?_
        rintro e w' ⟨rfl, rfl⟩
        go_wp2_with fail
        refine (place_is 2 k false _ HM.out).mono ?_
        rintro e w' ⟨rfl, rfl⟩
        go_wp2_with fail
        go_roundg 3
        case measure => have := HG.out; omega
        case rel => exact ⟨4, by omega, rfl, rfl, rfl⟩
      have d1 : decide (0 < k) = true := by simp; omega
      have d2 : decide (k < 5) = true := by simp; omega
      have d3 : decide (k < 1) = false := by simp; omega
      have d4 : decide (4 < k) = false := by simp; omega
      clear ka kb
      cases hm : may 2 k
      · have HM := Lib.hid hm; clear hm
        go_wp2_with fail
        refine (set_is 2 false _ rfl).mono ?_
        rintro e w' ⟨rfl, rfl⟩
        go_wp2_with fail
        refine (place_is 2 k false _ HM.out).mono ?_
        rintro e w' ⟨rfl, rfl⟩
        go_wp2_with fail
        go_roundg 3
        case measure => have := HG.out; omega
        case rel => exact ⟨4, by omega, rfl, rfl, rfl⟩
      · have HM := Lib.hid hm; clear hm
        go_wp2_with fail
        refine (set_is 2 false _ rfl).mono ?_
        rintro e w' ⟨rfl, rfl⟩
        go_wp2_with fail
        refine (place_is 2 k true _ HM.out).mono ?_
        rintro e w' ⟨rfl, rfl⟩
        go_wp2_with fail
        go_roundg 3
        case measure => have := HG.out; omega
        case rel => exact ⟨4, by omega, rfl, rfl, rfl⟩
    by_cases h4 : j = 4
    · subst h4
      clear hj7
      by_cases ka : k ≤ 0
      · have HM := Lib.hid (may_no 3 k (Or.inl ka))
        have d1 : decide (0 < k) = false := by simp; omega
        have d2 : decide (k < 1) = true := by simp; omega
        clear ka
        go_wp2_with fail
        refine (set_is 3 true _ rfl).mono ?_
        rintro e w' ⟨rfl, rfl⟩
        go_wp2_with fail
        refine (cancel_is 3 true _ rfl).mono ?_
        rintro e w' ⟨rfl, rfl⟩
        go_wp2_with fail
        refine (feed_is 3 true _ rfl).mono ?_
        rintro e w' ⟨rfl, rfl⟩
        go_wp2_with fail
        refine (place_is 3 k false _ HM.out).mono ?_
        rintro e w' ⟨rfl, rfl⟩
        go_wp2_with fail
        go_roundg 2
        case measure => have := HG.out; omega
        case rel => exact ⟨5, by omega, rfl, rfl, rfl⟩
      by_cases kb : 5 ≤ k
      · have HM := Lib.hid (may_no 3 k (Or.inr kb))
        have d1 : decide (0 < k) = true := by simp; omega
        have d2 : decide (k < 5) = false := by simp; omega
        have d3 : decide (k < 1) = false := by simp; omega
        have d4 : decide (4 < k) = true := by simp; omega
        clear ka kb
        go_wp2_with fail
        refine (set_is 3 true _ rfl).mono ?_
        rintro e w' ⟨rfl, rfl⟩
        go_wp2_with fail
        refine (cancel_is 3 true _ rfl).mono ?_
        rintro e w' ⟨rfl, rfl⟩
        go_wp2_with fail
        refine (feed_is 3 true _ rfl).mono ?_
        rintro e w' ⟨rfl, rfl⟩
        go_wp2_with fail
        refine (place_is 3 k false _ HM.out).mono ?_
        rintro e w' ⟨rfl, rfl⟩
        go_wp2_with fail
        go_roundg 2
        case measure => have := HG.out; omega
        case rel => exact ⟨5, by omega, rfl, rfl, rfl⟩
      have HM := Lib.hid (may_all k (by omega) (by omega))
      have d1 : decide (0 < k) = true := by simp; omega
      have d2 : decide (k < 5) = true := by simp; omega
      have d3 : decide (k < 1) = false := by simp; omega
      have d4 : decide (4 < k) = false := by simp; omega
      clear ka kb
      go_wp2_with fail
      refine (set_is 3 true _ rfl).mono ?_
      rintro e w' ⟨rfl, rfl⟩
      go_wp2_with fail
      refine (cancel_is 3 true _ rfl).mono ?_
      rintro e w' ⟨rfl, rfl⟩
      go_wp2_with fail
      refine (feed_is 3 true _ rfl).mono ?_
      rintro e w' ⟨rfl, rfl⟩
      go_wp2_with fail
      refine (place_is 3 k true _ HM.out).mono ?_
      rintro e w' ⟨rfl, rfl⟩
      go_wp2_with fail
      refine (place_is 3 k true _ HM.out).mono ?_
      rintro e w' ⟨rfl, rfl⟩
      go_wp2_with fail
      go_roundg 2
      case measure => have := HG.out; omega
      case rel => exact ⟨5, by omega, rfl, rfl, rfl⟩
    by_cases h5 : j = 5
    · subst h5
      clear hj7
      have HM := Lib.hid (may_none 4 k rfl rfl rfl)
      go_wp2_with fail
      refine (set_is 4 false _ rfl).mono ?_
      rintro e w' ⟨rfl, rfl⟩
      go_wp2_with fail
      refine (place_is 4 k false _ HM.out).mono ?_
      rintro e w' ⟨rfl, rfl⟩
      go_wp2_with fail
      go_roundg 1
      case measure => have := HG.out; omega
      case rel => exact ⟨6, by omega, rfl, rfl, rfl⟩
    by_cases h6 : j = 6
    · subst h6
      clear hj7
      have HM := Lib.hid (may_none 5 k rfl rfl rfl)
      go_wp2_with fail
      refine (set_is 5 false _ rfl).mono ?_
      rintro e w' ⟨rfl, rfl⟩
      go_wp2_with fail
      refine (place_is 5 k false _ HM.out).mono ?_
      rintro e w' ⟨rfl, rfl⟩
      go_wp2_with fail
      go_roundg 0
      case measure => have := HG.out; omega
      case rel => exact ⟨7, by omega, rfl, rfl, rfl⟩
    omega
end Go.Proofs.Ythoakjfhoehpoaa
