/- TokenBits' walk. -/
import Derived.Test.YthoakjfhoehpoaaTokD
namespace Go.Proofs.Ythoakjfhoehpoaa
open Go.RowKit Go.Lib

theorem tk_far (s who far role : Int) (h : far % 4294967296 = who % 4294967296) : tk s far role = tk s who role := by
  unfold tk; rw [h]
theorem tk_small {s a b role : Int} (ha : 0 ≤ a ∧ a < 256) (hb : 0 ≤ b ∧ b < 256) (h : tk s a role = tk s b role) : a = b := by
  have e := stp_left h
  unfold wn at e
  have e1 : a % 4294967296 / 16777216 % 256 = 0 := by omega
  have e2 : a % 4294967296 / 65536 % 256 = 0 := by omega
  have e3 : a % 4294967296 / 256 % 256 = 0 := by omega
  have f1 : b % 4294967296 / 16777216 % 256 = 0 := by omega
  have f2 : b % 4294967296 / 65536 % 256 = 0 := by omega
  have f3 : b % 4294967296 / 256 % 256 = 0 := by omega
  rw [e1, e2, e3, f1, f2, f3] at e
  have := stp_right (by omega) (by omega) e
  omega
theorem tk_eq {s a b role : Int} (ha : 0 ≤ a ∧ a < 256) (hb : 0 ≤ b ∧ b < 256) : (N (tk s a role) == N (tk s b role)) = (a == b) := by
  rw [Bool.eq_iff_iff, beq_iff_eq, beq_iff_eq]; exact ⟨fun e => tk_small ha hb (N_inj.1 e), fun e => by rw [e]⟩
theorem far_low (who m : Int) : wrap64 (who + wrap64 (4294967296 * wrap64 m)) % 4294967296 = who % 4294967296 := by
  unfold wrap64; omega

set_option maxHeartbeats 1000000 in
theorem bits_any (s who role more other : Int) (w : World) (h0 : 0 ≤ s) (h1 : s < 4294967296) (h2 : 0 ≤ other) (h3 : other < 256) :
    Calls Try.prog 5 #[.int .u32 s, .int .i64 who, .int .i64 role, .int .i64 more, .int .u8 other] w fun e w' => e = .returned (.bool true) ∧ w = w' := by
  have OF := Lib.hid (fun who role v w hv => of_is s who role v w h0 h1 hv)
  have PA := Lib.hid (fun who w => pass_any s who w h0 h1)
  have IS := Lib.hid (fun who role t b w hb => is_is s who role t b w h0 h1 hb)
  have H2 := Lib.hid h2; have H3 := Lib.hid h3
  clear h0 h1 h2 h3
  obtain ⟨t, ht⟩ : ∃ t, N (tk s who role) = t := ⟨_, rfl⟩
  have T := Lib.hid ht; clear ht
  go_enter Try.func5, Try.ntmps5
  go_wp2_with fail
  refine (awake_any _).mono ?_
  rintro e w' ⟨rfl, rfl⟩
  go_wp2_with fail
  refine (OF.out who role t _ T.out).mono ?_
  rintro e w' ⟨rfl, rfl⟩
  go_wp2_with fail
  have hf := far_low who ((IntKind.u64.wrap more).tmod 1000)
  generalize wrap64 (who + wrap64 (4294967296 * wrap64 ((IntKind.u64.wrap more).tmod 1000))) = far at *
  have HF := Lib.hid hf; clear hf
  refine (OF.out far role t _ (by rw [tk_far s who far role HF.out, T.out])).mono ?_
  rintro e w' ⟨rfl, rfl⟩
  go_wp2_with fail
  refine (PA.out far _).mono ?_
  rintro e w' ⟨rfl, rfl⟩
  rw [tk_far s who far 255 HF.out]
  generalize hp : tk s who 255 = p
  have HP := Lib.hid hp; clear hp
  go_wp2_with fail
  refine (PA.out who _).mono ?_
  rintro e w' ⟨rfl, rfl⟩
  rw [HP.out]
  go_wp2_with fail
  have HE : Hid (∀ a b : Int, 0 ≤ a ∧ a < 256 → 0 ≤ b ∧ b < 256 → (N (tk s a role) == N (tk s b role)) = (a == b)) := Lib.hid (fun a b ha hb => tk_eq ha hb)
  have HO : Hid (wrap64 other = other) := Lib.hid (by have := H2.out; have := H3.out; unfold wrap64; omega)
  have HA : Hid (0 ≤ who % 256 ∧ who % 256 < 256) := Lib.hid (by omega)
  cases hi : isT s far role t
  · refine (IS.out far role t false _ hi).mono ?_
    rintro e w' ⟨rfl, rfl⟩
    clear hi
    go_wp2_with fail
    refine (OF.out (who % 256) role _ _ rfl).mono ?_
    rintro e w' ⟨rfl, rfl⟩
    rw [HO.out]
    go_wp2_with fail
    refine (OF.out other role _ _ rfl).mono ?_
    rintro e w' ⟨rfl, rfl⟩
    have he := HE.out (who % 256) other HA.out ⟨H2.out, H3.out⟩
    generalize N (tk s (who % 256) role) = x at *
    generalize N (tk s other role) = y at *
    generalize who % 256 = z at *
    cases hz : z == other
    · rw [hz] at he
      go_wp2
      go_ret
      exact ⟨rfl, rfl⟩
    · rw [hz] at he
      go_wp2
      go_ret
      exact ⟨rfl, rfl⟩
  · refine (IS.out far role t true _ hi).mono ?_
    rintro e w' ⟨rfl, rfl⟩
    have hr : 1 ≤ far ∧ far ≤ 1073741824 := by
      unfold isT at hi
      simp only [Bool.and_eq_true, decide_eq_true_eq] at hi
      exact hi.1.1
    have d1 : decide (far < 1) = false := by simp; omega
    have d2 : decide (1073741824 < far) = false := by simp; omega
    clear hi hr
    go_wp2_with fail
    refine (OF.out (who % 256) role _ _ rfl).mono ?_
    rintro e w' ⟨rfl, rfl⟩
    rw [HO.out]
    go_wp2_with fail
    refine (OF.out other role _ _ rfl).mono ?_
    rintro e w' ⟨rfl, rfl⟩
    have he := HE.out (who % 256) other HA.out ⟨H2.out, H3.out⟩
    generalize N (tk s (who % 256) role) = x at *
    generalize N (tk s other role) = y at *
    generalize who % 256 = z at *
    cases hz : z == other
    · rw [hz] at he
      go_wp2
      go_ret
      exact ⟨rfl, rfl⟩
    · rw [hz] at he
      go_wp2
      go_ret
      exact ⟨rfl, rfl⟩
end Go.Proofs.Ythoakjfhoehpoaa
