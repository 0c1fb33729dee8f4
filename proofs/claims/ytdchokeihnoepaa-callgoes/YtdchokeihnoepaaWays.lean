/- Where it is to be met, whether it lives, and which way it goes. -/
import Derived.Test.YtdchokeihnoepaaMay
namespace Go.Proofs.Ytdchokeihnoepaa
open Go.RowKit Go.Lib
set_option linter.unusedVariables false
set_option linter.unusedSimpArgs false

def goalK (x : K) : Int := if x.kind = 3 ∨ x.st = 3 then x.dto else x.frm
def livesK (x : K) : Bool := decide (x.st = 1 ∨ x.st = 2 ∨ x.st = 3)
def dirK (x : K) : Int := if x.kind = 1 ∨ x.kind = 4 ∧ x.frm < x.dto then 1 else if x.kind = 2 ∨ x.kind = 4 then -1 else 0
set_option maxRecDepth 100000 in
set_option maxHeartbeats 2000000 in
theorem goal_any (x : K) (w : World) : Calls Try.prog 14 #[x.V] w (Num w (goalK x)) := by
  have HA := Lib.hid (KAt.new w x); have HB := Lib.hid (below_new w (.cells x.cells 26))
  by_cases h1 : x.kind = 3
  · have d1 : decide (x.kind = 3) = true := (by simpa using h1); have n1 : (x.kind != 3) = false := (by simpa using h1); have q1 : (x.kind == 3) = true := (by simpa using h1)
    have HR : Hid (goalK x = x.dto) := Lib.hid (if_pos (.inl h1))
    go_enter Try.func14, Try.ntmps14
    go_upto_region 1 with fail
    obtain ⟨W, hW⟩ : ∃ W, w.alloc (.cells x.cells 26) = W := ⟨_, rfl⟩
    rw [hW] at HA HB ⊢; clear hW
    generalize w.heap.size = p at HA ⊢
    have k1 := HA.out.get1; have k2 := HA.out.get2; have k3 := HA.out.get3; have k5 := HA.out.get5
    go_wp2_with fail
    go_ret
    exact ⟨ret_int HR.out.symm, HB.out⟩
  · have d1 : decide (x.kind = 3) = false := (by simpa using h1); have n1 : (x.kind != 3) = true := (by simpa using h1); have q1 : (x.kind == 3) = false := (by simpa using h1)
    by_cases h2 : x.st = 3
    · have d2 : decide (x.st = 3) = true := (by simpa using h2); have n2 : (x.st != 3) = false := (by simpa using h2); have q2 : (x.st == 3) = true := (by simpa using h2)
      have HR : Hid (goalK x = x.dto) := Lib.hid (if_pos (.inr h2))
      go_enter Try.func14, Try.ntmps14
      go_upto_region 1 with fail
      obtain ⟨W, hW⟩ : ∃ W, w.alloc (.cells x.cells 26) = W := ⟨_, rfl⟩
      rw [hW] at HA HB ⊢; clear hW
      generalize w.heap.size = p at HA ⊢
      have k1 := HA.out.get1; have k2 := HA.out.get2; have k3 := HA.out.get3; have k5 := HA.out.get5
      go_wp2_with fail
      go_ret
      exact ⟨ret_int HR.out.symm, HB.out⟩
    · have d2 : decide (x.st = 3) = false := (by simpa using h2); have n2 : (x.st != 3) = true := (by simpa using h2); have q2 : (x.st == 3) = false := (by simpa using h2)
      have HR : Hid (goalK x = x.frm) := Lib.hid (if_neg (fun h => h.elim h1 h2))
      go_enter Try.func14, Try.ntmps14
      go_upto_region 1 with fail
      obtain ⟨W, hW⟩ : ∃ W, w.alloc (.cells x.cells 26) = W := ⟨_, rfl⟩
      rw [hW] at HA HB ⊢; clear hW
      generalize w.heap.size = p at HA ⊢
      have k1 := HA.out.get1; have k2 := HA.out.get2; have k3 := HA.out.get3; have k5 := HA.out.get5
      go_wp2_with fail
      go_ret
      exact ⟨ret_int HR.out.symm, HB.out⟩
set_option maxRecDepth 100000 in
set_option maxHeartbeats 2000000 in
theorem lives_any (x : K) (w : World) : Calls Try.prog 15 #[x.V] w (Yes w (livesK x)) := by
  have HA := Lib.hid (KAt.new w x); have HB := Lib.hid (below_new w (.cells x.cells 26))
  by_cases h1 : x.st = 1
  · have d1 : decide (x.st = 1) = true := (by simpa using h1); have n1 : (x.st != 1) = false := (by simpa using h1); have q1 : (x.st == 1) = true := (by simpa using h1)
    have HR : Hid (livesK x = true) := Lib.hid (by simp [livesK, h1])
    go_enter Try.func15, Try.ntmps15
    go_upto_region 1 with fail
    obtain ⟨W, hW⟩ : ∃ W, w.alloc (.cells x.cells 26) = W := ⟨_, rfl⟩
    rw [hW] at HA HB ⊢; clear hW
    generalize w.heap.size = p at HA ⊢
    have k1 := HA.out.get1; have k2 := HA.out.get2; have k3 := HA.out.get3; have k5 := HA.out.get5
    go_wp2_with fail
    go_ret
    exact ⟨ret_bool HR.out.symm, HB.out⟩
  · have d1 : decide (x.st = 1) = false := (by simpa using h1); have n1 : (x.st != 1) = true := (by simpa using h1); have q1 : (x.st == 1) = false := (by simpa using h1)
    by_cases h2 : x.st = 2
    · have d2 : decide (x.st = 2) = true := (by simpa using h2); have n2 : (x.st != 2) = false := (by simpa using h2); have q2 : (x.st == 2) = true := (by simpa using h2)
      have HR : Hid (livesK x = true) := Lib.hid (by simp [livesK, h2])
      go_enter Try.func15, Try.ntmps15
      go_upto_region 1 with fail
      obtain ⟨W, hW⟩ : ∃ W, w.alloc (.cells x.cells 26) = W := ⟨_, rfl⟩
      rw [hW] at HA HB ⊢; clear hW
      generalize w.heap.size = p at HA ⊢
      have k1 := HA.out.get1; have k2 := HA.out.get2; have k3 := HA.out.get3; have k5 := HA.out.get5
      go_wp2_with fail
      go_ret
      exact ⟨ret_bool HR.out.symm, HB.out⟩
    · have d2 : decide (x.st = 2) = false := (by simpa using h2); have n2 : (x.st != 2) = true := (by simpa using h2); have q2 : (x.st == 2) = false := (by simpa using h2)
      by_cases h3 : x.st = 3
      · have d3 : decide (x.st = 3) = true := (by simpa using h3); have n3 : (x.st != 3) = false := (by simpa using h3); have q3 : (x.st == 3) = true := (by simpa using h3)
        have HR : Hid (livesK x = true) := Lib.hid (by simp [livesK, h3])
        go_enter Try.func15, Try.ntmps15
        go_upto_region 1 with fail
        obtain ⟨W, hW⟩ : ∃ W, w.alloc (.cells x.cells 26) = W := ⟨_, rfl⟩
        rw [hW] at HA HB ⊢; clear hW
        generalize w.heap.size = p at HA ⊢
        have k1 := HA.out.get1; have k2 := HA.out.get2; have k3 := HA.out.get3; have k5 := HA.out.get5
        go_wp2_with fail
        go_ret
        exact ⟨ret_bool HR.out.symm, HB.out⟩
      · have d3 : decide (x.st = 3) = false := (by simpa using h3); have n3 : (x.st != 3) = true := (by simpa using h3); have q3 : (x.st == 3) = false := (by simpa using h3)
        have HR : Hid (livesK x = false) := Lib.hid (by simp [livesK, h1, h2, h3])
        go_enter Try.func15, Try.ntmps15
        go_upto_region 1 with fail
        obtain ⟨W, hW⟩ : ∃ W, w.alloc (.cells x.cells 26) = W := ⟨_, rfl⟩
        rw [hW] at HA HB ⊢; clear hW
        generalize w.heap.size = p at HA ⊢
        have k1 := HA.out.get1; have k2 := HA.out.get2; have k3 := HA.out.get3; have k5 := HA.out.get5
        go_wp2_with fail
        go_ret
        exact ⟨ret_bool HR.out.symm, HB.out⟩
set_option maxRecDepth 100000 in
set_option maxHeartbeats 2000000 in
theorem dir_any (x : K) (w : World) : Calls Try.prog 16 #[x.V] w (Num w (dirK x)) := by
  have HA := Lib.hid (KAt.new w x); have HB := Lib.hid (below_new w (.cells x.cells 26))
  by_cases h1 : x.kind = 1
  · have d1 : decide (x.kind = 1) = true := (by simpa using h1); have n1 : (x.kind != 1) = false := (by simpa using h1); have q1 : (x.kind == 1) = true := (by simpa using h1)
    have HR : Hid (dirK x = 1) := Lib.hid (by simp [dirK, h1])
    go_enter Try.func16, Try.ntmps16
    go_upto_region 1 with fail
    obtain ⟨W, hW⟩ : ∃ W, w.alloc (.cells x.cells 26) = W := ⟨_, rfl⟩
    rw [hW] at HA HB ⊢; clear hW
    generalize w.heap.size = p at HA ⊢
    have k1 := HA.out.get1; have k2 := HA.out.get2; have k3 := HA.out.get3; have k5 := HA.out.get5
    go_wp2_with fail
    go_ret
    exact ⟨ret_int HR.out.symm, HB.out⟩
  · have d1 : decide (x.kind = 1) = false := (by simpa using h1); have n1 : (x.kind != 1) = true := (by simpa using h1); have q1 : (x.kind == 1) = false := (by simpa using h1)
    by_cases h4 : x.kind = 4
    · have d4 : decide (x.kind = 4) = true := (by simpa using h4); have n4 : (x.kind != 4) = false := (by simpa using h4); have q4 : (x.kind == 4) = true := (by simpa using h4)
      by_cases h5 : x.frm < x.dto
      · have d5 : decide (x.frm < x.dto) = true := (by simpa using h5)
        have HR : Hid (dirK x = 1) := Lib.hid (by simp [dirK, h4, h5])
        go_enter Try.func16, Try.ntmps16
        go_upto_region 1 with fail
        obtain ⟨W, hW⟩ : ∃ W, w.alloc (.cells x.cells 26) = W := ⟨_, rfl⟩
        rw [hW] at HA HB ⊢; clear hW
        generalize w.heap.size = p at HA ⊢
        have k1 := HA.out.get1; have k2 := HA.out.get2; have k3 := HA.out.get3; have k5 := HA.out.get5
        go_wp2_with fail
        go_ret
        exact ⟨ret_int HR.out.symm, HB.out⟩
      · have d5 : decide (x.frm < x.dto) = false := (by simpa using h5)
        have HR : Hid (dirK x = -1) := Lib.hid (by simp [dirK, h4, h5])
        go_enter Try.func16, Try.ntmps16
        go_upto_region 1 with fail
        obtain ⟨W, hW⟩ : ∃ W, w.alloc (.cells x.cells 26) = W := ⟨_, rfl⟩
        rw [hW] at HA HB ⊢; clear hW
        generalize w.heap.size = p at HA ⊢
        have k1 := HA.out.get1; have k2 := HA.out.get2; have k3 := HA.out.get3; have k5 := HA.out.get5
        go_wp2_with fail
        go_ret
        exact ⟨ret_int HR.out.symm, HB.out⟩
    · have d4 : decide (x.kind = 4) = false := (by simpa using h4); have n4 : (x.kind != 4) = true := (by simpa using h4); have q4 : (x.kind == 4) = false := (by simpa using h4)
      by_cases h2 : x.kind = 2
      · have d2 : decide (x.kind = 2) = true := (by simpa using h2); have n2 : (x.kind != 2) = false := (by simpa using h2); have q2 : (x.kind == 2) = true := (by simpa using h2)
        have HR : Hid (dirK x = -1) := Lib.hid (by simp [dirK, h2])
        go_enter Try.func16, Try.ntmps16
        go_upto_region 1 with fail
        obtain ⟨W, hW⟩ : ∃ W, w.alloc (.cells x.cells 26) = W := ⟨_, rfl⟩
        rw [hW] at HA HB ⊢; clear hW
        generalize w.heap.size = p at HA ⊢
        have k1 := HA.out.get1; have k2 := HA.out.get2; have k3 := HA.out.get3; have k5 := HA.out.get5
        go_wp2_with fail
        go_ret
        exact ⟨ret_int HR.out.symm, HB.out⟩
      · have d2 : decide (x.kind = 2) = false := (by simpa using h2); have n2 : (x.kind != 2) = true := (by simpa using h2); have q2 : (x.kind == 2) = false := (by simpa using h2)
        have HR : Hid (dirK x = 0) := Lib.hid (by simp [dirK, h1, h2, h4])
        go_enter Try.func16, Try.ntmps16
        go_upto_region 1 with fail
        obtain ⟨W, hW⟩ : ∃ W, w.alloc (.cells x.cells 26) = W := ⟨_, rfl⟩
        rw [hW] at HA HB ⊢; clear hW
        generalize w.heap.size = p at HA ⊢
        have k1 := HA.out.get1; have k2 := HA.out.get2; have k3 := HA.out.get3; have k5 := HA.out.get5
        go_wp2_with fail
        go_ret
        exact ⟨ret_int HR.out.symm, HB.out⟩
end Go.Proofs.Ytdchokeihnoepaa
