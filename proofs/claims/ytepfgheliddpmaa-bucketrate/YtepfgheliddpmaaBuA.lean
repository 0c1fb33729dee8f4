/- A bucket: whether it can be, its level, by both sides. -/
import Derived.Test.YtepfgheliddpmaaRfA
import Derived.Test.YtepfgheliddpmaaBuK
import Derived.Test.YtepfgheliddpmaaBuPlain
namespace Go.Proofs.Ytepfgheliddpmaa
open Go.RowKit Go.Lib
set_option linter.unusedVariables false
set_option linter.unusedSimpArgs false

/-- a tick that can be -/
def tick (n : Int) : Bool := decide (0 ≤ n) && decide (n ≤ 1073741824)
/-- a bucket that can be -/
def okB (c : Cfg) (t l : Int) : Bool := okc c && (decide (0 ≤ t) && (decide (t ≤ c.get 7) && tick l))
/-- its level -/
def lev (c : Cfg) (t l now : Int) : Int := if okB c t l && tick now then lv (c.get 8) (c.get 7) t l now else 0

theorem tick_iff {n : Int} : tick n = true ↔ 0 ≤ n ∧ n ≤ 1073741824 := by simp [tick]
theorem okB_iff {c : Cfg} {t l : Int} : okB c t l = true ↔ okc c = true ∧ 0 ≤ t ∧ t ≤ c.get 7 ∧ tick l = true := by simp [okB]
theorem okB_no {c : Cfg} {t l : Int} (h : okc c = false) : okB c t l = false := by simp [okB, h]
theorem burst_in {c : Cfg} (h : okc c = true) : 1 ≤ c.get 7 ∧ c.get 7 ≤ 1024 := ok_at h (k := 7) (by omega)
theorem rate_in {c : Cfg} (h : okc c = true) : 1 ≤ c.get 8 ∧ c.get 8 ≤ 1024 := ok_at h (k := 8) (by omega)

theorem new_any (c : Cfg) (now : Int) (w : World) : Calls Try.prog 7 #[c.V, .int .i64 now] w fun e w' => e = .returned (Bt.V ⟨c.get 7, now⟩) ∧ Below w.heap.size w w' := by
  have H := Lib.hid (new2 w c.cells #[.int .i64 0, .int .i64 0] 24 26)
  have HL : Hid (w.heap.size ≤ w.heap.size + 1) := Lib.hid (by omega)
  go_enter Try.func7, Try.ntmps7
  go_upto_region 1 with fail
  obtain ⟨W, hW⟩ : ∃ W, (w.alloc (.cells c.cells 24)).alloc (.cells #[.int .i64 0, .int .i64 0] 26) = W := ⟨_, rfl⟩
  rw [hW] at H ⊢; clear hW
  have HZ : Hid (BtAt W (w.heap.size + 1) zb) := Lib.hid H.out.2.2
  have HB := Lib.hid H.out.1
  have kc := CAt.get (c := c) H.out.2.1 (k := 7) (by omega)
  generalize w.heap.size + 1 = q at *
  go_wp2_with ((with_reducible apply wpList_store_bt (c := ⟨c.get 7, now⟩) (hq := HZ.out)); exact rfl; exact rfl; exact rfl; exact rfl)
  exact bodyPost_ret (results_cell_row (P := Try.prog) Try.results7 _ _ q 26 (⟨c.get 7, now⟩ : Bt).cells (0, 0) _ rfl (BtAt.setRow HZ.out _) Try.underlying26 rfl (sizeBt _)) rfl ⟨rfl, below_setRow HB.out HL.out _⟩

theorem isTick_any (n : Int) (w : World) : Calls Try.prog 17 #[.int .i64 n] w fun e w' => e = .returned (.bool (tick n)) ∧ w = w' := by
  by_cases h0 : 0 ≤ n
  · by_cases h1 : n ≤ 1073741824
    · have d0 : decide (0 ≤ n) = true := decide_eq_true h0
      have d1 : decide (n ≤ 1073741824) = true := decide_eq_true h1
      have E : Hid (tick n = true) := Lib.hid (by unfold tick; rw [d0, d1]; rfl)
      clear h0 h1
      go_enter Try.func17, Try.ntmps17
      go_wp2_with fail
      go_ret
      exact ⟨ret_bool E.out.symm, rfl⟩
    · have d0 : decide (0 ≤ n) = true := decide_eq_true h0
      have d1 : decide (n ≤ 1073741824) = false := decide_eq_false h1
      have E : Hid (tick n = false) := Lib.hid (by unfold tick; rw [d0, d1]; rfl)
      clear h0 h1
      go_enter Try.func17, Try.ntmps17
      go_wp2_with fail
      go_ret
      exact ⟨ret_bool E.out.symm, rfl⟩
  · have d0 : decide (0 ≤ n) = false := decide_eq_false h0
    have E : Hid (tick n = false) := Lib.hid (by unfold tick; rw [d0]; rfl)
    clear h0
    go_enter Try.func17, Try.ntmps17
    go_wp2_with fail
    go_ret
    exact ⟨ret_bool E.out.symm, rfl⟩
end Go.Proofs.Ytepfgheliddpmaa
