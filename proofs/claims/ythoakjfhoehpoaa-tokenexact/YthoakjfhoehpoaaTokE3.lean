/- TokenExact's walk: TokE3. -/
import Derived.Test.YthoakjfhoehpoaaTokD
namespace Go.Proofs.Ythoakjfhoehpoaa
open Go.RowKit Go.Lib

set_option maxHeartbeats 4000000 in
theorem exact_3_lo (s who t kind : Int) (w : World) (h0 : 0 ≤ s) (h1 : s < 4294967296)  (k1 : decide (0 < kind) = false) (hm : may 3 kind = false) :
    Calls Try.prog 3 #[.int .u32 s, .int .i64 who, .int .i64 3, .int .u32 t, .int .i64 kind] w fun e w' => e = .returned (.bool true) ∧ Grown w w' := by
  have OF := Lib.hid (fun w => of_any s who 3 w h0 h1)
  have PA := Lib.hid (fun w => pass_any s who w h0 h1)
  have RE := Lib.hid (fun w => ref_any s who 3 w h0 h1)
  have RP := Lib.hid (fun w => ref_any s who 255 w h0 h1)
  have IS := Lib.hid (fun b w hb => is_is s who 3 t b w h0 h1 hb)
  have PL := Lib.hid (fun w => place_is 3 kind false w hm)
  clear h0 h1 hm
  by_cases a : who < 1
  · have q1 : decide (0 < who) = false := by simp; omega
    have hn : isT s who 3 t = false := by unfold isT; rw [show decide (1 ≤ who) = false by simp; omega]; rfl
    clear a
    have IB := Lib.hid (fun w => IS.out false w hn)
    clear IS hn
    generalize tk s who 255 = x5 at *
    generalize tk s who 3 = x1 at *
    generalize N x1 = n1 at *
    generalize N x5 = n5 at *
    go_enter Try.func3, Try.ntmps3
    go_wp2_with fail
    refine (awake_any _).mono ?_
    rintro e w' ⟨rfl, rfl⟩
    go_wp2_with fail
    refine (OF.out _).mono ?_
    rintro e w' ⟨rfl, rfl⟩
    go_wp2_with fail
    refine (RE.out _).mono ?_
    rintro e w2 ⟨rfl, g2⟩
    have G2 := Lib.hid g2; clear g2
    go_wp2_with fail
    refine (PA.out _).mono ?_
    rintro e w' ⟨rfl, rfl⟩
    go_wp2_with fail
    refine (RP.out _).mono ?_
    rintro e w3 ⟨rfl, g3⟩
    have G3 := Lib.hid g3; clear g3
    go_wp2_with fail
    refine (IB.out _).mono ?_
    rintro e w' ⟨rfl, rfl⟩
    go_wp2_with fail
    refine (PL.out _).mono ?_
    rintro e w' ⟨rfl, rfl⟩
    go_wp2_with fail
    refine (cancel_is 3 true _ rfl).mono ?_
    rintro e w' ⟨rfl, rfl⟩
    go_wp2_with fail
    refine (set_is 3 true _ rfl).mono ?_
    rintro e w' ⟨rfl, rfl⟩
    go_wp2_with fail
    refine (feed_is 3 true _ rfl).mono ?_
    rintro e w' ⟨rfl, rfl⟩
    go_wp2
    go_ret
    exact ⟨rfl, gtrans G2.out G3.out⟩
  have q1 : decide (0 < who) = true := by simp; omega
  by_cases b : 1073741824 < who
  · have q2 : decide (who ≤ 1073741824) = false := by simp; omega
    have hn : isT s who 3 t = false := by unfold isT; rw [q2]; simp
    clear a b
    have IB := Lib.hid (fun w => IS.out false w hn)
    clear IS hn
    generalize tk s who 255 = x5 at *
    generalize tk s who 3 = x1 at *
    generalize N x1 = n1 at *
    generalize N x5 = n5 at *
    go_enter Try.func3, Try.ntmps3
    go_wp2_with fail
    refine (awake_any _).mono ?_
    rintro e w' ⟨rfl, rfl⟩
    go_wp2_with fail
    refine (OF.out _).mono ?_
    rintro e w' ⟨rfl, rfl⟩
    go_wp2_with fail
    refine (RE.out _).mono ?_
    rintro e w2 ⟨rfl, g2⟩
    have G2 := Lib.hid g2; clear g2
    go_wp2_with fail
    refine (PA.out _).mono ?_
    rintro e w' ⟨rfl, rfl⟩
    go_wp2_with fail
    refine (RP.out _).mono ?_
    rintro e w3 ⟨rfl, g3⟩
    have G3 := Lib.hid g3; clear g3
    go_wp2_with fail
    refine (IB.out _).mono ?_
    rintro e w' ⟨rfl, rfl⟩
    go_wp2_with fail
    refine (PL.out _).mono ?_
    rintro e w' ⟨rfl, rfl⟩
    go_wp2_with fail
    refine (cancel_is 3 true _ rfl).mono ?_
    rintro e w' ⟨rfl, rfl⟩
    go_wp2_with fail
    refine (set_is 3 true _ rfl).mono ?_
    rintro e w' ⟨rfl, rfl⟩
    go_wp2_with fail
    refine (feed_is 3 true _ rfl).mono ?_
    rintro e w' ⟨rfl, rfl⟩
    go_wp2
    go_ret
    exact ⟨rfl, gtrans G2.out G3.out⟩
  have q2 : decide (who ≤ 1073741824) = true := by simp; omega
  have q3 : decide (1 ≤ who) = true := by simp; omega
  cases hq : (N (tk s who 3) == t)
  · have hn : isT s who 3 t = false := by unfold isT; rw [q2, q3, Bool.beq_comm (a := t), hq]; rfl
    clear a b q3
    have IB := Lib.hid (fun w => IS.out false w hn)
    clear IS hn
    generalize tk s who 255 = x5 at *
    generalize tk s who 3 = x1 at *
    generalize N x1 = n1 at *
    generalize N x5 = n5 at *
    go_enter Try.func3, Try.ntmps3
    go_wp2_with fail
    refine (awake_any _).mono ?_
    rintro e w' ⟨rfl, rfl⟩
    go_wp2_with fail
    refine (RE.out _).mono ?_
    rintro e w1 ⟨rfl, g1⟩
    have G1 := Lib.hid g1; clear g1
    go_wp2_with fail
    refine (OF.out _).mono ?_
    rintro e w' ⟨rfl, rfl⟩
    go_wp2_with fail
    refine (RE.out _).mono ?_
    rintro e w2 ⟨rfl, g2⟩
    have G2 := Lib.hid g2; clear g2
    go_wp2_with fail
    refine (PA.out _).mono ?_
    rintro e w' ⟨rfl, rfl⟩
    go_wp2_with fail
    refine (RP.out _).mono ?_
    rintro e w3 ⟨rfl, g3⟩
    have G3 := Lib.hid g3; clear g3
    go_wp2_with fail
    refine (IB.out _).mono ?_
    rintro e w' ⟨rfl, rfl⟩
    go_wp2_with fail
    refine (PL.out _).mono ?_
    rintro e w' ⟨rfl, rfl⟩
    go_wp2_with fail
    refine (cancel_is 3 true _ rfl).mono ?_
    rintro e w' ⟨rfl, rfl⟩
    go_wp2_with fail
    refine (set_is 3 true _ rfl).mono ?_
    rintro e w' ⟨rfl, rfl⟩
    go_wp2_with fail
    refine (feed_is 3 true _ rfl).mono ?_
    rintro e w' ⟨rfl, rfl⟩
    go_wp2
    go_ret
    exact ⟨rfl, gtrans G1.out (gtrans G2.out G3.out)⟩
  · have hn : isT s who 3 t = true := by unfold isT; rw [q2, q3, Bool.beq_comm (a := t), hq]; rfl
    clear a b q3
    have IB := Lib.hid (fun w => IS.out true w hn)
    clear IS hn
    generalize tk s who 255 = x5 at *
    generalize tk s who 3 = x1 at *
    generalize N x1 = n1 at *
    generalize N x5 = n5 at *
    go_enter Try.func3, Try.ntmps3
    go_wp2_with fail
    refine (awake_any _).mono ?_
    rintro e w' ⟨rfl, rfl⟩
    go_wp2_with fail
    refine (RE.out _).mono ?_
    rintro e w1 ⟨rfl, g1⟩
    have G1 := Lib.hid g1; clear g1
    go_wp2_with fail
    refine (OF.out _).mono ?_
    rintro e w' ⟨rfl, rfl⟩
    go_wp2_with fail
    refine (RE.out _).mono ?_
    rintro e w2 ⟨rfl, g2⟩
    have G2 := Lib.hid g2; clear g2
    go_wp2_with fail
    refine (PA.out _).mono ?_
    rintro e w' ⟨rfl, rfl⟩
    go_wp2_with fail
    refine (RP.out _).mono ?_
    rintro e w3 ⟨rfl, g3⟩
    have G3 := Lib.hid g3; clear g3
    go_wp2_with fail
    refine (IB.out _).mono ?_
    rintro e w' ⟨rfl, rfl⟩
    go_wp2_with fail
    refine (PL.out _).mono ?_
    rintro e w' ⟨rfl, rfl⟩
    go_wp2_with fail
    refine (cancel_is 3 true _ rfl).mono ?_
    rintro e w' ⟨rfl, rfl⟩
    go_wp2_with fail
    refine (set_is 3 true _ rfl).mono ?_
    rintro e w' ⟨rfl, rfl⟩
    go_wp2_with fail
    refine (feed_is 3 true _ rfl).mono ?_
    rintro e w' ⟨rfl, rfl⟩
    go_wp2
    go_ret
    exact ⟨rfl, gtrans G1.out (gtrans G2.out G3.out)⟩

set_option maxHeartbeats 4000000 in
theorem exact_3_hi (s who t kind : Int) (w : World) (h0 : 0 ≤ s) (h1 : s < 4294967296)  (k1 : decide (0 < kind) = true) (k2 : decide (kind < 5) = false) (hm : may 3 kind = false) :
    Calls Try.prog 3 #[.int .u32 s, .int .i64 who, .int .i64 3, .int .u32 t, .int .i64 kind] w fun e w' => e = .returned (.bool true) ∧ Grown w w' := by
  have OF := Lib.hid (fun w => of_any s who 3 w h0 h1)
  have PA := Lib.hid (fun w => pass_any s who w h0 h1)
  have RE := Lib.hid (fun w => ref_any s who 3 w h0 h1)
  have RP := Lib.hid (fun w => ref_any s who 255 w h0 h1)
  have IS := Lib.hid (fun b w hb => is_is s who 3 t b w h0 h1 hb)
  have PL := Lib.hid (fun w => place_is 3 kind false w hm)
  clear h0 h1 hm
  by_cases a : who < 1
  · have q1 : decide (0 < who) = false := by simp; omega
    have hn : isT s who 3 t = false := by unfold isT; rw [show decide (1 ≤ who) = false by simp; omega]; rfl
    clear a
    have IB := Lib.hid (fun w => IS.out false w hn)
    clear IS hn
    generalize tk s who 255 = x5 at *
    generalize tk s who 3 = x1 at *
    generalize N x1 = n1 at *
    generalize N x5 = n5 at *
    go_enter Try.func3, Try.ntmps3
    go_wp2_with fail
    refine (awake_any _).mono ?_
    rintro e w' ⟨rfl, rfl⟩
    go_wp2_with fail
    refine (OF.out _).mono ?_
    rintro e w' ⟨rfl, rfl⟩
    go_wp2_with fail
    refine (RE.out _).mono ?_
    rintro e w2 ⟨rfl, g2⟩
    have G2 := Lib.hid g2; clear g2
    go_wp2_with fail
    refine (PA.out _).mono ?_
    rintro e w' ⟨rfl, rfl⟩
    go_wp2_with fail
    refine (RP.out _).mono ?_
    rintro e w3 ⟨rfl, g3⟩
    have G3 := Lib.hid g3; clear g3
    go_wp2_with fail
    refine (IB.out _).mono ?_
    rintro e w' ⟨rfl, rfl⟩
    go_wp2_with fail
    refine (PL.out _).mono ?_
    rintro e w' ⟨rfl, rfl⟩
    go_wp2_with fail
    refine (cancel_is 3 true _ rfl).mono ?_
    rintro e w' ⟨rfl, rfl⟩
    go_wp2_with fail
    refine (set_is 3 true _ rfl).mono ?_
    rintro e w' ⟨rfl, rfl⟩
    go_wp2_with fail
    refine (feed_is 3 true _ rfl).mono ?_
    rintro e w' ⟨rfl, rfl⟩
    go_wp2
    go_ret
    exact ⟨rfl, gtrans G2.out G3.out⟩
  have q1 : decide (0 < who) = true := by simp; omega
  by_cases b : 1073741824 < who
  · have q2 : decide (who ≤ 1073741824) = false := by simp; omega
    have hn : isT s who 3 t = false := by unfold isT; rw [q2]; simp
    clear a b
    have IB := Lib.hid (fun w => IS.out false w hn)
    clear IS hn
    generalize tk s who 255 = x5 at *
    generalize tk s who 3 = x1 at *
    generalize N x1 = n1 at *
    generalize N x5 = n5 at *
    go_enter Try.func3, Try.ntmps3
    go_wp2_with fail
    refine (awake_any _).mono ?_
    rintro e w' ⟨rfl, rfl⟩
    go_wp2_with fail
    refine (OF.out _).mono ?_
    rintro e w' ⟨rfl, rfl⟩
    go_wp2_with fail
    refine (RE.out _).mono ?_
    rintro e w2 ⟨rfl, g2⟩
    have G2 := Lib.hid g2; clear g2
    go_wp2_with fail
    refine (PA.out _).mono ?_
    rintro e w' ⟨rfl, rfl⟩
    go_wp2_with fail
    refine (RP.out _).mono ?_
    rintro e w3 ⟨rfl, g3⟩
    have G3 := Lib.hid g3; clear g3
    go_wp2_with fail
    refine (IB.out _).mono ?_
    rintro e w' ⟨rfl, rfl⟩
    go_wp2_with fail
    refine (PL.out _).mono ?_
    rintro e w' ⟨rfl, rfl⟩
    go_wp2_with fail
    refine (cancel_is 3 true _ rfl).mono ?_
    rintro e w' ⟨rfl, rfl⟩
    go_wp2_with fail
    refine (set_is 3 true _ rfl).mono ?_
    rintro e w' ⟨rfl, rfl⟩
    go_wp2_with fail
    refine (feed_is 3 true _ rfl).mono ?_
    rintro e w' ⟨rfl, rfl⟩
    go_wp2
    go_ret
    exact ⟨rfl, gtrans G2.out G3.out⟩
  have q2 : decide (who ≤ 1073741824) = true := by simp; omega
  have q3 : decide (1 ≤ who) = true := by simp; omega
  cases hq : (N (tk s who 3) == t)
  · have hn : isT s who 3 t = false := by unfold isT; rw [q2, q3, Bool.beq_comm (a := t), hq]; rfl
    clear a b q3
    have IB := Lib.hid (fun w => IS.out false w hn)
    clear IS hn
    generalize tk s who 255 = x5 at *
    generalize tk s who 3 = x1 at *
    generalize N x1 = n1 at *
    generalize N x5 = n5 at *
    go_enter Try.func3, Try.ntmps3
    go_wp2_with fail
    refine (awake_any _).mono ?_
    rintro e w' ⟨rfl, rfl⟩
    go_wp2_with fail
    refine (RE.out _).mono ?_
    rintro e w1 ⟨rfl, g1⟩
    have G1 := Lib.hid g1; clear g1
    go_wp2_with fail
    refine (OF.out _).mono ?_
    rintro e w' ⟨rfl, rfl⟩
    go_wp2_with fail
    refine (RE.out _).mono ?_
    rintro e w2 ⟨rfl, g2⟩
    have G2 := Lib.hid g2; clear g2
    go_wp2_with fail
    refine (PA.out _).mono ?_
    rintro e w' ⟨rfl, rfl⟩
    go_wp2_with fail
    refine (RP.out _).mono ?_
    rintro e w3 ⟨rfl, g3⟩
    have G3 := Lib.hid g3; clear g3
    go_wp2_with fail
    refine (IB.out _).mono ?_
    rintro e w' ⟨rfl, rfl⟩
    go_wp2_with fail
    refine (PL.out _).mono ?_
    rintro e w' ⟨rfl, rfl⟩
    go_wp2_with fail
    refine (cancel_is 3 true _ rfl).mono ?_
    rintro e w' ⟨rfl, rfl⟩
    go_wp2_with fail
    refine (set_is 3 true _ rfl).mono ?_
    rintro e w' ⟨rfl, rfl⟩
    go_wp2_with fail
    refine (feed_is 3 true _ rfl).mono ?_
    rintro e w' ⟨rfl, rfl⟩
    go_wp2
    go_ret
    exact ⟨rfl, gtrans G1.out (gtrans G2.out G3.out)⟩
  · have hn : isT s who 3 t = true := by unfold isT; rw [q2, q3, Bool.beq_comm (a := t), hq]; rfl
    clear a b q3
    have IB := Lib.hid (fun w => IS.out true w hn)
    clear IS hn
    generalize tk s who 255 = x5 at *
    generalize tk s who 3 = x1 at *
    generalize N x1 = n1 at *
    generalize N x5 = n5 at *
    go_enter Try.func3, Try.ntmps3
    go_wp2_with fail
    refine (awake_any _).mono ?_
    rintro e w' ⟨rfl, rfl⟩
    go_wp2_with fail
    refine (RE.out _).mono ?_
    rintro e w1 ⟨rfl, g1⟩
    have G1 := Lib.hid g1; clear g1
    go_wp2_with fail
    refine (OF.out _).mono ?_
    rintro e w' ⟨rfl, rfl⟩
    go_wp2_with fail
    refine (RE.out _).mono ?_
    rintro e w2 ⟨rfl, g2⟩
    have G2 := Lib.hid g2; clear g2
    go_wp2_with fail
    refine (PA.out _).mono ?_
    rintro e w' ⟨rfl, rfl⟩
    go_wp2_with fail
    refine (RP.out _).mono ?_
    rintro e w3 ⟨rfl, g3⟩
    have G3 := Lib.hid g3; clear g3
    go_wp2_with fail
    refine (IB.out _).mono ?_
    rintro e w' ⟨rfl, rfl⟩
    go_wp2_with fail
    refine (PL.out _).mono ?_
    rintro e w' ⟨rfl, rfl⟩
    go_wp2_with fail
    refine (cancel_is 3 true _ rfl).mono ?_
    rintro e w' ⟨rfl, rfl⟩
    go_wp2_with fail
    refine (set_is 3 true _ rfl).mono ?_
    rintro e w' ⟨rfl, rfl⟩
    go_wp2_with fail
    refine (feed_is 3 true _ rfl).mono ?_
    rintro e w' ⟨rfl, rfl⟩
    go_wp2
    go_ret
    exact ⟨rfl, gtrans G1.out (gtrans G2.out G3.out)⟩

set_option maxHeartbeats 4000000 in
theorem exact_3_ok (s who t kind : Int) (w : World) (h0 : 0 ≤ s) (h1 : s < 4294967296)  (k1 : decide (0 < kind) = true) (k2 : decide (kind < 5) = true) (hm : may 3 kind = true) :
    Calls Try.prog 3 #[.int .u32 s, .int .i64 who, .int .i64 3, .int .u32 t, .int .i64 kind] w fun e w' => e = .returned (.bool true) ∧ Grown w w' := by
  have OF := Lib.hid (fun w => of_any s who 3 w h0 h1)
  have PA := Lib.hid (fun w => pass_any s who w h0 h1)
  have RE := Lib.hid (fun w => ref_any s who 3 w h0 h1)
  have RP := Lib.hid (fun w => ref_any s who 255 w h0 h1)
  have IS := Lib.hid (fun b w hb => is_is s who 3 t b w h0 h1 hb)
  have PL := Lib.hid (fun w => place_is 3 kind true w hm)
  clear h0 h1 hm
  by_cases a : who < 1
  · have q1 : decide (0 < who) = false := by simp; omega
    have hn : isT s who 3 t = false := by unfold isT; rw [show decide (1 ≤ who) = false by simp; omega]; rfl
    clear a
    have IB := Lib.hid (fun w => IS.out false w hn)
    clear IS hn
    generalize tk s who 255 = x5 at *
    generalize tk s who 3 = x1 at *
    generalize N x1 = n1 at *
    generalize N x5 = n5 at *
    go_enter Try.func3, Try.ntmps3
    go_wp2_with fail
    refine (awake_any _).mono ?_
    rintro e w' ⟨rfl, rfl⟩
    go_wp2_with fail
    refine (OF.out _).mono ?_
    rintro e w' ⟨rfl, rfl⟩
    go_wp2_with fail
    refine (RE.out _).mono ?_
    rintro e w2 ⟨rfl, g2⟩
    have G2 := Lib.hid g2; clear g2
    go_wp2_with fail
    refine (PA.out _).mono ?_
    rintro e w' ⟨rfl, rfl⟩
    go_wp2_with fail
    refine (RP.out _).mono ?_
    rintro e w3 ⟨rfl, g3⟩
    have G3 := Lib.hid g3; clear g3
    go_wp2_with fail
    refine (IB.out _).mono ?_
    rintro e w' ⟨rfl, rfl⟩
    go_wp2_with fail
    refine (PL.out _).mono ?_
    rintro e w' ⟨rfl, rfl⟩
    go_wp2_with fail
    refine (cancel_is 3 true _ rfl).mono ?_
    rintro e w' ⟨rfl, rfl⟩
    go_wp2_with fail
    refine (set_is 3 true _ rfl).mono ?_
    rintro e w' ⟨rfl, rfl⟩
    go_wp2_with fail
    refine (feed_is 3 true _ rfl).mono ?_
    rintro e w' ⟨rfl, rfl⟩
    go_wp2
    go_ret
    exact ⟨rfl, gtrans G2.out G3.out⟩
  have q1 : decide (0 < who) = true := by simp; omega
  by_cases b : 1073741824 < who
  · have q2 : decide (who ≤ 1073741824) = false := by simp; omega
    have hn : isT s who 3 t = false := by unfold isT; rw [q2]; simp
    clear a b
    have IB := Lib.hid (fun w => IS.out false w hn)
    clear IS hn
    generalize tk s who 255 = x5 at *
    generalize tk s who 3 = x1 at *
    generalize N x1 = n1 at *
    generalize N x5 = n5 at *
    go_enter Try.func3, Try.ntmps3
    go_wp2_with fail
    refine (awake_any _).mono ?_
    rintro e w' ⟨rfl, rfl⟩
    go_wp2_with fail
    refine (OF.out _).mono ?_
    rintro e w' ⟨rfl, rfl⟩
    go_wp2_with fail
    refine (RE.out _).mono ?_
    rintro e w2 ⟨rfl, g2⟩
    have G2 := Lib.hid g2; clear g2
    go_wp2_with fail
    refine (PA.out _).mono ?_
    rintro e w' ⟨rfl, rfl⟩
    go_wp2_with fail
    refine (RP.out _).mono ?_
    rintro e w3 ⟨rfl, g3⟩
    have G3 := Lib.hid g3; clear g3
    go_wp2_with fail
    refine (IB.out _).mono ?_
    rintro e w' ⟨rfl, rfl⟩
    go_wp2_with fail
    refine (PL.out _).mono ?_
    rintro e w' ⟨rfl, rfl⟩
    go_wp2_with fail
    refine (cancel_is 3 true _ rfl).mono ?_
    rintro e w' ⟨rfl, rfl⟩
    go_wp2_with fail
    refine (set_is 3 true _ rfl).mono ?_
    rintro e w' ⟨rfl, rfl⟩
    go_wp2_with fail
    refine (feed_is 3 true _ rfl).mono ?_
    rintro e w' ⟨rfl, rfl⟩
    go_wp2
    go_ret
    exact ⟨rfl, gtrans G2.out G3.out⟩
  have q2 : decide (who ≤ 1073741824) = true := by simp; omega
  have q3 : decide (1 ≤ who) = true := by simp; omega
  cases hq : (N (tk s who 3) == t)
  · have hn : isT s who 3 t = false := by unfold isT; rw [q2, q3, Bool.beq_comm (a := t), hq]; rfl
    clear a b q3
    have IB := Lib.hid (fun w => IS.out false w hn)
    clear IS hn
    generalize tk s who 255 = x5 at *
    generalize tk s who 3 = x1 at *
    generalize N x1 = n1 at *
    generalize N x5 = n5 at *
    go_enter Try.func3, Try.ntmps3
    go_wp2_with fail
    refine (awake_any _).mono ?_
    rintro e w' ⟨rfl, rfl⟩
    go_wp2_with fail
    refine (RE.out _).mono ?_
    rintro e w1 ⟨rfl, g1⟩
    have G1 := Lib.hid g1; clear g1
    go_wp2_with fail
    refine (OF.out _).mono ?_
    rintro e w' ⟨rfl, rfl⟩
    go_wp2_with fail
    refine (RE.out _).mono ?_
    rintro e w2 ⟨rfl, g2⟩
    have G2 := Lib.hid g2; clear g2
    go_wp2_with fail
    refine (PA.out _).mono ?_
    rintro e w' ⟨rfl, rfl⟩
    go_wp2_with fail
    refine (RP.out _).mono ?_
    rintro e w3 ⟨rfl, g3⟩
    have G3 := Lib.hid g3; clear g3
    go_wp2_with fail
    refine (IB.out _).mono ?_
    rintro e w' ⟨rfl, rfl⟩
    go_wp2_with fail
    refine (PL.out _).mono ?_
    rintro e w' ⟨rfl, rfl⟩
    go_wp2_with fail
    refine (cancel_is 3 true _ rfl).mono ?_
    rintro e w' ⟨rfl, rfl⟩
    go_wp2_with fail
    refine (set_is 3 true _ rfl).mono ?_
    rintro e w' ⟨rfl, rfl⟩
    go_wp2_with fail
    refine (feed_is 3 true _ rfl).mono ?_
    rintro e w' ⟨rfl, rfl⟩
    go_wp2
    go_ret
    exact ⟨rfl, gtrans G1.out (gtrans G2.out G3.out)⟩
  · have hn : isT s who 3 t = true := by unfold isT; rw [q2, q3, Bool.beq_comm (a := t), hq]; rfl
    clear a b q3
    have IB := Lib.hid (fun w => IS.out true w hn)
    clear IS hn
    generalize tk s who 255 = x5 at *
    generalize tk s who 3 = x1 at *
    generalize N x1 = n1 at *
    generalize N x5 = n5 at *
    go_enter Try.func3, Try.ntmps3
    go_wp2_with fail
    refine (awake_any _).mono ?_
    rintro e w' ⟨rfl, rfl⟩
    go_wp2_with fail
    refine (RE.out _).mono ?_
    rintro e w1 ⟨rfl, g1⟩
    have G1 := Lib.hid g1; clear g1
    go_wp2_with fail
    refine (OF.out _).mono ?_
    rintro e w' ⟨rfl, rfl⟩
    go_wp2_with fail
    refine (RE.out _).mono ?_
    rintro e w2 ⟨rfl, g2⟩
    have G2 := Lib.hid g2; clear g2
    go_wp2_with fail
    refine (PA.out _).mono ?_
    rintro e w' ⟨rfl, rfl⟩
    go_wp2_with fail
    refine (RP.out _).mono ?_
    rintro e w3 ⟨rfl, g3⟩
    have G3 := Lib.hid g3; clear g3
    go_wp2_with fail
    refine (IB.out _).mono ?_
    rintro e w' ⟨rfl, rfl⟩
    go_wp2_with fail
    refine (PL.out _).mono ?_
    rintro e w' ⟨rfl, rfl⟩
    go_wp2_with fail
    refine (cancel_is 3 true _ rfl).mono ?_
    rintro e w' ⟨rfl, rfl⟩
    go_wp2_with fail
    refine (set_is 3 true _ rfl).mono ?_
    rintro e w' ⟨rfl, rfl⟩
    go_wp2_with fail
    refine (feed_is 3 true _ rfl).mono ?_
    rintro e w' ⟨rfl, rfl⟩
    go_wp2
    go_ret
    exact ⟨rfl, gtrans G1.out (gtrans G2.out G3.out)⟩
end Go.Proofs.Ythoakjfhoehpoaa
