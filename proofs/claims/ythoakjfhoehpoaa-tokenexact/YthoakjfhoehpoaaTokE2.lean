/- TokenExact's walk: TokE2. -/
import Derived.Test.YthoakjfhoehpoaaTokD
namespace Go.Proofs.Ythoakjfhoehpoaa
open Go.RowKit Go.Lib

set_option maxHeartbeats 4000000 in
theorem exact_2_4 (s who t kind : Int) (w : World) (h0 : 0 ≤ s) (h1 : s < 4294967296)  (hk : kind = 4) (hm : may 2 kind = true) :
    Calls Try.prog 3 #[.int .u32 s, .int .i64 who, .int .i64 2, .int .u32 t, .int .i64 kind] w fun e w' => e = .returned (.bool true) ∧ Grown w w' := by
  have OF := Lib.hid (fun w => of_any s who 2 w h0 h1)
  have PA := Lib.hid (fun w => pass_any s who w h0 h1)
  have RE := Lib.hid (fun w => ref_any s who 2 w h0 h1)
  have RP := Lib.hid (fun w => ref_any s who 255 w h0 h1)
  have IS := Lib.hid (fun b w hb => is_is s who 2 t b w h0 h1 hb)
  have PL := Lib.hid (fun w => place_is 2 kind true w hm)
  subst hk
  clear h0 h1 hm
  by_cases a : who < 1
  · have q1 : decide (0 < who) = false := by simp; omega
    have hn : isT s who 2 t = false := by unfold isT; rw [show decide (1 ≤ who) = false by simp; omega]; rfl
    clear a
    have IB := Lib.hid (fun w => IS.out false w hn)
    clear IS hn
    generalize tk s who 255 = x5 at *
    generalize tk s who 2 = x1 at *
    generalize N x1 = n1 at *
    generalize N x5 = n5 at *
    go_enter Try.func3, Try.ntmps3
    go_wp2_with fail
    refine (awake_any _).mono ?_
    rintro e w' ⟨rfl, rfl⟩
    go_wp2_with fail
    refine (OF.out _).mono ?_
    rintro e w' ⟨rfl, rfl⟩
    go_wp2_with fail
    refine (RE.out _).mono ?_
    rintro e w2 ⟨rfl, g2⟩
    have G2 := Lib.hid g2; clear g2
    go_wp2_with fail
    refine (PA.out _).mono ?_
    rintro e w' ⟨rfl, rfl⟩
    go_wp2_with fail
    refine (RP.out _).mono ?_
    rintro e w3 ⟨rfl, g3⟩
    have G3 := Lib.hid g3; clear g3
    go_wp2_with fail
    refine (IB.out _).mono ?_
    rintro e w' ⟨rfl, rfl⟩
    go_wp2_with fail
    refine (PL.out _).mono ?_
    rintro e w' ⟨rfl, rfl⟩
    go_wp2_with fail
    refine (cancel_is 2 false _ rfl).mono ?_
    rintro e w' ⟨rfl, rfl⟩
    go_wp2_with fail
    refine (set_is 2 false _ rfl).mono ?_
    rintro e w' ⟨rfl, rfl⟩
    go_wp2_with fail
    refine (feed_is 2 false _ rfl).mono ?_
    rintro e w' ⟨rfl, rfl⟩
    go_wp2
    go_ret
    exact ⟨rfl, gtrans G2.out G3.out⟩
  have q1 : decide (0 < who) = true := by simp; omega
  by_cases b : 1073741824 < who
  · have q2 : decide (who ≤ 1073741824) = false := by simp; omega
    have hn : isT s who 2 t = false := by unfold isT; rw [q2]; simp
    clear a b
    have IB := Lib.hid (fun w => IS.out false w hn)
    clear IS hn
    generalize tk s who 255 = x5 at *
    generalize tk s who 2 = x1 at *
    generalize N x1 = n1 at *
    generalize N x5 = n5 at *
    go_enter Try.func3, Try.ntmps3
    go_wp2_with fail
    refine (awake_any _).mono ?_
    rintro e w' ⟨rfl, rfl⟩
    go_wp2_with fail
    refine (OF.out _).mono ?_
    rintro e w' ⟨rfl, rfl⟩
    go_wp2_with fail
    refine (RE.out _).mono ?_
    rintro e w2 ⟨rfl, g2⟩
    have G2 := Lib.hid g2; clear g2
    go_wp2_with fail
    refine (PA.out _).mono ?_
    rintro e w' ⟨rfl, rfl⟩
    go_wp2_with fail
    refine (RP.out _).mono ?_
    rintro e w3 ⟨rfl, g3⟩
    have G3 := Lib.hid g3; clear g3
    go_wp2_with fail
    refine (IB.out _).mono ?_
    rintro e w' ⟨rfl, rfl⟩
    go_wp2_with fail
    refine (PL.out _).mono ?_
    rintro e w' ⟨rfl, rfl⟩
    go_wp2_with fail
    refine (cancel_is 2 false _ rfl).mono ?_
    rintro e w' ⟨rfl, rfl⟩
    go_wp2_with fail
    refine (set_is 2 false _ rfl).mono ?_
    rintro e w' ⟨rfl, rfl⟩
    go_wp2_with fail
    refine (feed_is 2 false _ rfl).mono ?_
    rintro e w' ⟨rfl, rfl⟩
    go_wp2
    go_ret
    exact ⟨rfl, gtrans G2.out G3.out⟩
  have q2 : decide (who ≤ 1073741824) = true := by simp; omega
  have q3 : decide (1 ≤ who) = true := by simp; omega
  cases hq : (N (tk s who 2) == t)
  · have hn : isT s who 2 t = false := by unfold isT; rw [q2, q3, Bool.beq_comm (a := t), hq]; rfl
    clear a b q3
    have IB := Lib.hid (fun w => IS.out false w hn)
    clear IS hn
    generalize tk s who 255 = x5 at *
    generalize tk s who 2 = x1 at *
    generalize N x1 = n1 at *
    generalize N x5 = n5 at *
    go_enter Try.func3, Try.ntmps3
    go_wp2_with fail
    refine (awake_any _).mono ?_
    rintro e w' ⟨rfl, rfl⟩
    go_wp2_with fail
    refine (RE.out _).mono ?_
    rintro e w1 ⟨rfl, g1⟩
    have G1 := Lib.hid g1; clear g1
    go_wp2_with fail
    refine (OF.out _).mono ?_
    rintro e w' ⟨rfl, rfl⟩
    go_wp2_with fail
    refine (RE.out _).mono ?_
    rintro e w2 ⟨rfl, g2⟩
    have G2 := Lib.hid g2; clear g2
    go_wp2_with fail
    refine (PA.out _).mono ?_
    rintro e w' ⟨rfl, rfl⟩
    go_wp2_with fail
    refine (RP.out _).mono ?_
    rintro e w3 ⟨rfl, g3⟩
    have G3 := Lib.hid g3; clear g3
    go_wp2_with fail
    refine (IB.out _).mono ?_
    rintro e w' ⟨rfl, rfl⟩
    go_wp2_with fail
    refine (PL.out _).mono ?_
    rintro e w' ⟨rfl, rfl⟩
    go_wp2_with fail
    refine (cancel_is 2 false _ rfl).mono ?_
    rintro e w' ⟨rfl, rfl⟩
    go_wp2_with fail
    refine (set_is 2 false _ rfl).mono ?_
    rintro e w' ⟨rfl, rfl⟩
    go_wp2_with fail
    refine (feed_is 2 false _ rfl).mono ?_
    rintro e w' ⟨rfl, rfl⟩
    go_wp2
    go_ret
    exact ⟨rfl, gtrans G1.out (gtrans G2.out G3.out)⟩
  · have hn : isT s who 2 t = true := by unfold isT; rw [q2, q3, Bool.beq_comm (a := t), hq]; rfl
    clear a b q3
    have IB := Lib.hid (fun w => IS.out true w hn)
    clear IS hn
    generalize tk s who 255 = x5 at *
    generalize tk s who 2 = x1 at *
    generalize N x1 = n1 at *
    generalize N x5 = n5 at *
    go_enter Try.func3, Try.ntmps3
    go_wp2_with fail
    refine (awake_any _).mono ?_
    rintro e w' ⟨rfl, rfl⟩
    go_wp2_with fail
    refine (RE.out _).mono ?_
    rintro e w1 ⟨rfl, g1⟩
    have G1 := Lib.hid g1; clear g1
    go_wp2_with fail
    refine (OF.out _).mono ?_
    rintro e w' ⟨rfl, rfl⟩
    go_wp2_with fail
    refine (RE.out _).mono ?_
    rintro e w2 ⟨rfl, g2⟩
    have G2 := Lib.hid g2; clear g2
    go_wp2_with fail
    refine (PA.out _).mono ?_
    rintro e w' ⟨rfl, rfl⟩
    go_wp2_with fail
    refine (RP.out _).mono ?_
    rintro e w3 ⟨rfl, g3⟩
    have G3 := Lib.hid g3; clear g3
    go_wp2_with fail
    refine (IB.out _).mono ?_
    rintro e w' ⟨rfl, rfl⟩
    go_wp2_with fail
    refine (PL.out _).mono ?_
    rintro e w' ⟨rfl, rfl⟩
    go_wp2_with fail
    refine (cancel_is 2 false _ rfl).mono ?_
    rintro e w' ⟨rfl, rfl⟩
    go_wp2_with fail
    refine (set_is 2 false _ rfl).mono ?_
    rintro e w' ⟨rfl, rfl⟩
    go_wp2_with fail
    refine (feed_is 2 false _ rfl).mono ?_
    rintro e w' ⟨rfl, rfl⟩
    go_wp2
    go_ret
    exact ⟨rfl, gtrans G1.out (gtrans G2.out G3.out)⟩

set_option maxHeartbeats 4000000 in
theorem exact_2 (s who t kind : Int) (w : World) (h0 : 0 ≤ s) (h1 : s < 4294967296)  (k4 : (kind == 4) = false) (hm : may 2 kind = false) :
    Calls Try.prog 3 #[.int .u32 s, .int .i64 who, .int .i64 2, .int .u32 t, .int .i64 kind] w fun e w' => e = .returned (.bool true) ∧ Grown w w' := by
  have OF := Lib.hid (fun w => of_any s who 2 w h0 h1)
  have PA := Lib.hid (fun w => pass_any s who w h0 h1)
  have RE := Lib.hid (fun w => ref_any s who 2 w h0 h1)
  have RP := Lib.hid (fun w => ref_any s who 255 w h0 h1)
  have IS := Lib.hid (fun b w hb => is_is s who 2 t b w h0 h1 hb)
  have PL := Lib.hid (fun w => place_is 2 kind false w hm)
  clear h0 h1 hm
  by_cases a : who < 1
  · have q1 : decide (0 < who) = false := by simp; omega
    have hn : isT s who 2 t = false := by unfold isT; rw [show decide (1 ≤ who) = false by simp; omega]; rfl
    clear a
    have IB := Lib.hid (fun w => IS.out false w hn)
    clear IS hn
    generalize tk s who 255 = x5 at *
    generalize tk s who 2 = x1 at *
    generalize N x1 = n1 at *
    generalize N x5 = n5 at *
    go_enter Try.func3, Try.ntmps3
    go_wp2_with fail
    refine (awake_any _).mono ?_
    rintro e w' ⟨rfl, rfl⟩
    go_wp2_with fail
    refine (OF.out _).mono ?_
    rintro e w' ⟨rfl, rfl⟩
    go_wp2_with fail
    refine (RE.out _).mono ?_
    rintro e w2 ⟨rfl, g2⟩
    have G2 := Lib.hid g2; clear g2
    go_wp2_with fail
    refine (PA.out _).mono ?_
    rintro e w' ⟨rfl, rfl⟩
    go_wp2_with fail
    refine (RP.out _).mono ?_
    rintro e w3 ⟨rfl, g3⟩
    have G3 := Lib.hid g3; clear g3
    go_wp2_with fail
    refine (IB.out _).mono ?_
    rintro e w' ⟨rfl, rfl⟩
    go_wp2_with fail
    refine (PL.out _).mono ?_
    rintro e w' ⟨rfl, rfl⟩
    go_wp2_with fail
    refine (cancel_is 2 false _ rfl).mono ?_
    rintro e w' ⟨rfl, rfl⟩
    go_wp2_with fail
    refine (set_is 2 false _ rfl).mono ?_
    rintro e w' ⟨rfl, rfl⟩
    go_wp2_with fail
    refine (feed_is 2 false _ rfl).mono ?_
    rintro e w' ⟨rfl, rfl⟩
    go_wp2
    go_ret
    exact ⟨rfl, gtrans G2.out G3.out⟩
  have q1 : decide (0 < who) = true := by simp; omega
  by_cases b : 1073741824 < who
  · have q2 : decide (who ≤ 1073741824) = false := by simp; omega
    have hn : isT s who 2 t = false := by unfold isT; rw [q2]; simp
    clear a b
    have IB := Lib.hid (fun w => IS.out false w hn)
    clear IS hn
    generalize tk s who 255 = x5 at *
    generalize tk s who 2 = x1 at *
    generalize N x1 = n1 at *
    generalize N x5 = n5 at *
    go_enter Try.func3, Try.ntmps3
    go_wp2_with fail
    refine (awake_any _).mono ?_
    rintro e w' ⟨rfl, rfl⟩
    go_wp2_with fail
    refine (OF.out _).mono ?_
    rintro e w' ⟨rfl, rfl⟩
    go_wp2_with fail
    refine (RE.out _).mono ?_
    rintro e w2 ⟨rfl, g2⟩
    have G2 := Lib.hid g2; clear g2
    go_wp2_with fail
    refine (PA.out _).mono ?_
    rintro e w' ⟨rfl, rfl⟩
    go_wp2_with fail
    refine (RP.out _).mono ?_
    rintro e w3 ⟨rfl, g3⟩
    have G3 := Lib.hid g3; clear g3
    go_wp2_with fail
    refine (IB.out _).mono ?_
    rintro e w' ⟨rfl, rfl⟩
    go_wp2_with fail
    refine (PL.out _).mono ?_
    rintro e w' ⟨rfl, rfl⟩
    go_wp2_with fail
    refine (cancel_is 2 false _ rfl).mono ?_
    rintro e w' ⟨rfl, rfl⟩
    go_wp2_with fail
    refine (set_is 2 false _ rfl).mono ?_
    rintro e w' ⟨rfl, rfl⟩
    go_wp2_with fail
    refine (feed_is 2 false _ rfl).mono ?_
    rintro e w' ⟨rfl, rfl⟩
    go_wp2
    go_ret
    exact ⟨rfl, gtrans G2.out G3.out⟩
  have q2 : decide (who ≤ 1073741824) = true := by simp; omega
  have q3 : decide (1 ≤ who) = true := by simp; omega
  cases hq : (N (tk s who 2) == t)
  · have hn : isT s who 2 t = false := by unfold isT; rw [q2, q3, Bool.beq_comm (a := t), hq]; rfl
    clear a b q3
    have IB := Lib.hid (fun w => IS.out false w hn)
    clear IS hn
    generalize tk s who 255 = x5 at *
    generalize tk s who 2 = x1 at *
    generalize N x1 = n1 at *
    generalize N x5 = n5 at *
    go_enter Try.func3, Try.ntmps3
    go_wp2_with fail
    refine (awake_any _).mono ?_
    rintro e w' ⟨rfl, rfl⟩
    go_wp2_with fail
    refine (RE.out _).mono ?_
    rintro e w1 ⟨rfl, g1⟩
    have G1 := Lib.hid g1; clear g1
    go_wp2_with fail
    refine (OF.out _).mono ?_
    rintro e w' ⟨rfl, rfl⟩
    go_wp2_with fail
    refine (RE.out _).mono ?_
    rintro e w2 ⟨rfl, g2⟩
    have G2 := Lib.hid g2; clear g2
    go_wp2_with fail
    refine (PA.out _).mono ?_
    rintro e w' ⟨rfl, rfl⟩
    go_wp2_with fail
    refine (RP.out _).mono ?_
    rintro e w3 ⟨rfl, g3⟩
    have G3 := Lib.hid g3; clear g3
    go_wp2_with fail
    refine (IB.out _).mono ?_
    rintro e w' ⟨rfl, rfl⟩
    go_wp2_with fail
    refine (PL.out _).mono ?_
    rintro e w' ⟨rfl, rfl⟩
    go_wp2_with fail
    refine (cancel_is 2 false _ rfl).mono ?_
    rintro e w' ⟨rfl, rfl⟩
    go_wp2_with fail
    refine (set_is 2 false _ rfl).mono ?_
    rintro e w' ⟨rfl, rfl⟩
    go_wp2_with fail
    refine (feed_is 2 false _ rfl).mono ?_
    rintro e w' ⟨rfl, rfl⟩
    go_wp2
    go_ret
    exact ⟨rfl, gtrans G1.out (gtrans G2.out G3.out)⟩
  · have hn : isT s who 2 t = true := by unfold isT; rw [q2, q3, Bool.beq_comm (a := t), hq]; rfl
    clear a b q3
    have IB := Lib.hid (fun w => IS.out true w hn)
    clear IS hn
    generalize tk s who 255 = x5 at *
    generalize tk s who 2 = x1 at *
    generalize N x1 = n1 at *
    generalize N x5 = n5 at *
    go_enter Try.func3, Try.ntmps3
    go_wp2_with fail
    refine (awake_any _).mono ?_
    rintro e w' ⟨rfl, rfl⟩
    go_wp2_with fail
    refine (RE.out _).mono ?_
    rintro e w1 ⟨rfl, g1⟩
    have G1 := Lib.hid g1; clear g1
    go_wp2_with fail
    refine (OF.out _).mono ?_
    rintro e w' ⟨rfl, rfl⟩
    go_wp2_with fail
    refine (RE.out _).mono ?_
    rintro e w2 ⟨rfl, g2⟩
    have G2 := Lib.hid g2; clear g2
    go_wp2_with fail
    refine (PA.out _).mono ?_
    rintro e w' ⟨rfl, rfl⟩
    go_wp2_with fail
    refine (RP.out _).mono ?_
    rintro e w3 ⟨rfl, g3⟩
    have G3 := Lib.hid g3; clear g3
    go_wp2_with fail
    refine (IB.out _).mono ?_
    rintro e w' ⟨rfl, rfl⟩
    go_wp2_with fail
    refine (PL.out _).mono ?_
    rintro e w' ⟨rfl, rfl⟩
    go_wp2_with fail
    refine (cancel_is 2 false _ rfl).mono ?_
    rintro e w' ⟨rfl, rfl⟩
    go_wp2_with fail
    refine (set_is 2 false _ rfl).mono ?_
    rintro e w' ⟨rfl, rfl⟩
    go_wp2_with fail
    refine (feed_is 2 false _ rfl).mono ?_
    rintro e w' ⟨rfl, rfl⟩
    go_wp2
    go_ret
    exact ⟨rfl, gtrans G1.out (gtrans G2.out G3.out)⟩

set_option maxHeartbeats 4000000 in
theorem exact_no (s who role t kind : Int) (w : World) (h0 : 0 ≤ s) (h1 : s < 4294967296) (r1 : (role == 1) = false) (r2 : (role == 2) = false) (r3 : (role == 3) = false) (l1 : decide (0 < role) = false) (hm : may role kind = false) :
    Calls Try.prog 3 #[.int .u32 s, .int .i64 who, .int .i64 role, .int .u32 t, .int .i64 kind] w fun e w' => e = .returned (.bool true) ∧ Grown w w' := by
  have OF := Lib.hid (fun w => of_any s who role w h0 h1)
  have PA := Lib.hid (fun w => pass_any s who w h0 h1)
  have RE := Lib.hid (fun w => ref_any s who role w h0 h1)
  have RP := Lib.hid (fun w => ref_any s who 255 w h0 h1)
  have IS := Lib.hid (fun b w hb => is_is s who role t b w h0 h1 hb)
  have PL := Lib.hid (fun w => place_is role kind false w hm)
  have HR : Hid (isR role = false) := Lib.hid (by unfold isR; rw [r1, r2, r3]; rfl)
  have HC : Hid (canc role = false) := Lib.hid (by unfold canc; rw [r1, r3]; rfl)
  have HS : Hid ((role == 3) = false) := Lib.hid r3
  clear h0 h1 hm
  by_cases a : who < 1
  · have q1 : decide (0 < who) = false := by simp; omega
    have hn : isT s who role t = false := by unfold isT; rw [show decide (1 ≤ who) = false by simp; omega]; rfl
    clear a
    have IB := Lib.hid (fun w => IS.out false w hn)
    clear IS hn
    generalize tk s who 255 = x5 at *
    generalize tk s who role = x1 at *
    generalize N x1 = n1 at *
    generalize N x5 = n5 at *
    go_enter Try.func3, Try.ntmps3
    go_wp2_with fail
    refine (awake_any _).mono ?_
    rintro e w' ⟨rfl, rfl⟩
    go_wp2_with fail
    refine (OF.out _).mono ?_
    rintro e w' ⟨rfl, rfl⟩
    go_wp2_with fail
    refine (RE.out _).mono ?_
    rintro e w2 ⟨rfl, g2⟩
    have G2 := Lib.hid g2; clear g2
    go_wp2_with fail
    refine (PA.out _).mono ?_
    rintro e w' ⟨rfl, rfl⟩
    go_wp2_with fail
    refine (RP.out _).mono ?_
    rintro e w3 ⟨rfl, g3⟩
    have G3 := Lib.hid g3; clear g3
    go_wp2_with fail
    refine (IB.out _).mono ?_
    rintro e w' ⟨rfl, rfl⟩
    go_wp2_with fail
    refine (PL.out _).mono ?_
    rintro e w' ⟨rfl, rfl⟩
    go_wp2_with fail
    refine (cancel_is role false _ HC.out).mono ?_
    rintro e w' ⟨rfl, rfl⟩
    go_wp2_with fail
    refine (set_is role false _ HS.out).mono ?_
    rintro e w' ⟨rfl, rfl⟩
    go_wp2_with fail
    refine (feed_is role false _ HC.out).mono ?_
    rintro e w' ⟨rfl, rfl⟩
    go_wp2
    go_ret
    exact ⟨rfl, gtrans G2.out G3.out⟩
  have q1 : decide (0 < who) = true := by simp; omega
  by_cases b : 1073741824 < who
  · have q2 : decide (who ≤ 1073741824) = false := by simp; omega
    have hn : isT s who role t = false := by unfold isT; rw [q2]; simp
    clear a b
    have IB := Lib.hid (fun w => IS.out false w hn)
    clear IS hn
    generalize tk s who 255 = x5 at *
    generalize tk s who role = x1 at *
    generalize N x1 = n1 at *
    generalize N x5 = n5 at *
    go_enter Try.func3, Try.ntmps3
    go_wp2_with fail
    refine (awake_any _).mono ?_
    rintro e w' ⟨rfl, rfl⟩
    go_wp2_with fail
    refine (OF.out _).mono ?_
    rintro e w' ⟨rfl, rfl⟩
    go_wp2_with fail
    refine (RE.out _).mono ?_
    rintro e w2 ⟨rfl, g2⟩
    have G2 := Lib.hid g2; clear g2
    go_wp2_with fail
    refine (PA.out _).mono ?_
    rintro e w' ⟨rfl, rfl⟩
    go_wp2_with fail
    refine (RP.out _).mono ?_
    rintro e w3 ⟨rfl, g3⟩
    have G3 := Lib.hid g3; clear g3
    go_wp2_with fail
    refine (IB.out _).mono ?_
    rintro e w' ⟨rfl, rfl⟩
    go_wp2_with fail
    refine (PL.out _).mono ?_
    rintro e w' ⟨rfl, rfl⟩
    go_wp2_with fail
    refine (cancel_is role false _ HC.out).mono ?_
    rintro e w' ⟨rfl, rfl⟩
    go_wp2_with fail
    refine (set_is role false _ HS.out).mono ?_
    rintro e w' ⟨rfl, rfl⟩
    go_wp2_with fail
    refine (feed_is role false _ HC.out).mono ?_
    rintro e w' ⟨rfl, rfl⟩
    go_wp2
    go_ret
    exact ⟨rfl, gtrans G2.out G3.out⟩
  have q2 : decide (who ≤ 1073741824) = true := by simp; omega
  have hn : isT s who role t = false := by unfold isT; rw [HR.out]; simp
  clear a b
  have IB := Lib.hid (fun w => IS.out false w hn)
  clear IS hn
  generalize tk s who 255 = x5 at *
  generalize tk s who role = x1 at *
  generalize N x1 = n1 at *
  generalize N x5 = n5 at *
  go_enter Try.func3, Try.ntmps3
  go_wp2_with fail
  refine (awake_any _).mono ?_
  rintro e w' ⟨rfl, rfl⟩
  go_wp2_with fail
  refine (OF.out _).mono ?_
  rintro e w' ⟨rfl, rfl⟩
  go_wp2_with fail
  refine (RE.out _).mono ?_
  rintro e w2 ⟨rfl, g2⟩
  have G2 := Lib.hid g2; clear g2
  go_wp2_with fail
  refine (PA.out _).mono ?_
  rintro e w' ⟨rfl, rfl⟩
  go_wp2_with fail
  refine (RP.out _).mono ?_
  rintro e w3 ⟨rfl, g3⟩
  have G3 := Lib.hid g3; clear g3
  go_wp2_with fail
  refine (IB.out _).mono ?_
  rintro e w' ⟨rfl, rfl⟩
  go_wp2_with fail
  refine (PL.out _).mono ?_
  rintro e w' ⟨rfl, rfl⟩
  go_wp2_with fail
  refine (cancel_is role false _ HC.out).mono ?_
  rintro e w' ⟨rfl, rfl⟩
  go_wp2_with fail
  refine (set_is role false _ HS.out).mono ?_
  rintro e w' ⟨rfl, rfl⟩
  go_wp2_with fail
  refine (feed_is role false _ HC.out).mono ?_
  rintro e w' ⟨rfl, rfl⟩
  go_wp2
  go_ret
  exact ⟨rfl, gtrans G2.out G3.out⟩

set_option maxHeartbeats 4000000 in
theorem exact_hi (s who role t kind : Int) (w : World) (h0 : 0 ≤ s) (h1 : s < 4294967296) (r1 : (role == 1) = false) (r2 : (role == 2) = false) (r3 : (role == 3) = false) (l1 : decide (0 < role) = true) (l2 : decide (role < 4) = false) (hm : may role kind = false) :
    Calls Try.prog 3 #[.int .u32 s, .int .i64 who, .int .i64 role, .int .u32 t, .int .i64 kind] w fun e w' => e = .returned (.bool true) ∧ Grown w w' := by
  have OF := Lib.hid (fun w => of_any s who role w h0 h1)
  have PA := Lib.hid (fun w => pass_any s who w h0 h1)
  have RE := Lib.hid (fun w => ref_any s who role w h0 h1)
  have RP := Lib.hid (fun w => ref_any s who 255 w h0 h1)
  have IS := Lib.hid (fun b w hb => is_is s who role t b w h0 h1 hb)
  have PL := Lib.hid (fun w => place_is role kind false w hm)
  have HR : Hid (isR role = false) := Lib.hid (by unfold isR; rw [r1, r2, r3]; rfl)
  have HC : Hid (canc role = false) := Lib.hid (by unfold canc; rw [r1, r3]; rfl)
  have HS : Hid ((role == 3) = false) := Lib.hid r3
  clear h0 h1 hm
  by_cases a : who < 1
  · have q1 : decide (0 < who) = false := by simp; omega
    have hn : isT s who role t = false := by unfold isT; rw [show decide (1 ≤ who) = false by simp; omega]; rfl
    clear a
    have IB := Lib.hid (fun w => IS.out false w hn)
    clear IS hn
    generalize tk s who 255 = x5 at *
    generalize tk s who role = x1 at *
    generalize N x1 = n1 at *
    generalize N x5 = n5 at *
    go_enter Try.func3, Try.ntmps3
    go_wp2_with fail
    refine (awake_any _).mono ?_
    rintro e w' ⟨rfl, rfl⟩
    go_wp2_with fail
    refine (OF.out _).mono ?_
    rintro e w' ⟨rfl, rfl⟩
    go_wp2_with fail
    refine (RE.out _).mono ?_
    rintro e w2 ⟨rfl, g2⟩
    have G2 := Lib.hid g2; clear g2
    go_wp2_with fail
    refine (PA.out _).mono ?_
    rintro e w' ⟨rfl, rfl⟩
    go_wp2_with fail
    refine (RP.out _).mono ?_
    rintro e w3 ⟨rfl, g3⟩
    have G3 := Lib.hid g3; clear g3
    go_wp2_with fail
    refine (IB.out _).mono ?_
    rintro e w' ⟨rfl, rfl⟩
    go_wp2_with fail
    refine (PL.out _).mono ?_
    rintro e w' ⟨rfl, rfl⟩
    go_wp2_with fail
    refine (cancel_is role false _ HC.out).mono ?_
    rintro e w' ⟨rfl, rfl⟩
    go_wp2_with fail
    refine (set_is role false _ HS.out).mono ?_
    rintro e w' ⟨rfl, rfl⟩
    go_wp2_with fail
    refine (feed_is role false _ HC.out).mono ?_
    rintro e w' ⟨rfl, rfl⟩
    go_wp2
    go_ret
    exact ⟨rfl, gtrans G2.out G3.out⟩
  have q1 : decide (0 < who) = true := by simp; omega
  by_cases b : 1073741824 < who
  · have q2 : decide (who ≤ 1073741824) = false := by simp; omega
    have hn : isT s who role t = false := by unfold isT; rw [q2]; simp
    clear a b
    have IB := Lib.hid (fun w => IS.out false w hn)
    clear IS hn
    generalize tk s who 255 = x5 at *
    generalize tk s who role = x1 at *
    generalize N x1 = n1 at *
    generalize N x5 = n5 at *
    go_enter Try.func3, Try.ntmps3
    go_wp2_with fail
    refine (awake_any _).mono ?_
    rintro e w' ⟨rfl, rfl⟩
    go_wp2_with fail
    refine (OF.out _).mono ?_
    rintro e w' ⟨rfl, rfl⟩
    go_wp2_with fail
    refine (RE.out _).mono ?_
    rintro e w2 ⟨rfl, g2⟩
    have G2 := Lib.hid g2; clear g2
    go_wp2_with fail
    refine (PA.out _).mono ?_
    rintro e w' ⟨rfl, rfl⟩
    go_wp2_with fail
    refine (RP.out _).mono ?_
    rintro e w3 ⟨rfl, g3⟩
    have G3 := Lib.hid g3; clear g3
    go_wp2_with fail
    refine (IB.out _).mono ?_
    rintro e w' ⟨rfl, rfl⟩
    go_wp2_with fail
    refine (PL.out _).mono ?_
    rintro e w' ⟨rfl, rfl⟩
    go_wp2_with fail
    refine (cancel_is role false _ HC.out).mono ?_
    rintro e w' ⟨rfl, rfl⟩
    go_wp2_with fail
    refine (set_is role false _ HS.out).mono ?_
    rintro e w' ⟨rfl, rfl⟩
    go_wp2_with fail
    refine (feed_is role false _ HC.out).mono ?_
    rintro e w' ⟨rfl, rfl⟩
    go_wp2
    go_ret
    exact ⟨rfl, gtrans G2.out G3.out⟩
  have q2 : decide (who ≤ 1073741824) = true := by simp; omega
  have hn : isT s who role t = false := by unfold isT; rw [HR.out]; simp
  clear a b
  have IB := Lib.hid (fun w => IS.out false w hn)
  clear IS hn
  generalize tk s who 255 = x5 at *
  generalize tk s who role = x1 at *
  generalize N x1 = n1 at *
  generalize N x5 = n5 at *
  go_enter Try.func3, Try.ntmps3
  go_wp2_with fail
  refine (awake_any _).mono ?_
  rintro e w' ⟨rfl, rfl⟩
  go_wp2_with fail
  refine (OF.out _).mono ?_
  rintro e w' ⟨rfl, rfl⟩
  go_wp2_with fail
  refine (RE.out _).mono ?_
  rintro e w2 ⟨rfl, g2⟩
  have G2 := Lib.hid g2; clear g2
  go_wp2_with fail
  refine (PA.out _).mono ?_
  rintro e w' ⟨rfl, rfl⟩
  go_wp2_with fail
  refine (RP.out _).mono ?_
  rintro e w3 ⟨rfl, g3⟩
  have G3 := Lib.hid g3; clear g3
  go_wp2_with fail
  refine (IB.out _).mono ?_
  rintro e w' ⟨rfl, rfl⟩
  go_wp2_with fail
  refine (PL.out _).mono ?_
  rintro e w' ⟨rfl, rfl⟩
  go_wp2_with fail
  refine (cancel_is role false _ HC.out).mono ?_
  rintro e w' ⟨rfl, rfl⟩
  go_wp2_with fail
  refine (set_is role false _ HS.out).mono ?_
  rintro e w' ⟨rfl, rfl⟩
  go_wp2_with fail
  refine (feed_is role false _ HC.out).mono ?_
  rintro e w' ⟨rfl, rfl⟩
  go_wp2
  go_ret
  exact ⟨rfl, gtrans G2.out G3.out⟩
end Go.Proofs.Ythoakjfhoehpoaa
