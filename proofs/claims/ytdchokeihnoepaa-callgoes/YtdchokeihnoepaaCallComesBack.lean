/- Who is left waits as before: the statement CallComesBack, all its ways together. -/
import Derived.Test.YtdchokeihnoepaaBackC
namespace Go.Proofs.Ytdchokeihnoepaa
open Go.RowKit Go.Lib
set_option linter.unusedVariables false
set_option linter.unusedSimpArgs false

theorem chkK_zero {c : Cfg} {x : K} (h : chkK c x = 0) : okc c = true ∧ askK c x = true := by
  unfold chkK at h
  split at h
  · rename_i h1
    split at h
    · rename_i h2; exact ⟨h1, h2⟩
    · exact absurd h (by decide)
  · exact absurd h (by decide)
theorem isB_iff {c : Cfg} {k : Nat} {n : Int} (hok : okc c = true) : isB c k n = true ↔ 1 ≤ n ∧ n ≤ c.get k := by
  simp [isB, hok]
theorem isB_no {c : Cfg} {k : Nat} {n : Int} (h : ¬ (1 ≤ n ∧ n ≤ c.get k)) : isB c k n = false := by
  cases e : isB c k n
  · rfl
  · simp [isB] at e; exact absurd e.1 h
/-- what can be asked, and is no Inside, has no car -/
theorem ask_car {c : Cfg} {x : K} (h : askK c x = true) (h3 : x.kind ≠ 3) : x.car = 0 := by
  by_cases h1 : x.kind = 1
  · rw [ask_1 h1] at h; simp [ask1] at h
    have := K.beq_iff.1 h.1.1; rw [this]; rfl
  · by_cases h2 : x.kind = 2
    · rw [ask_2 h2] at h; simp [ask2] at h
      have := K.beq_iff.1 h.1.1; rw [this]; rfl
    · by_cases h4 : x.kind = 4
      · rw [ask_4 h4] at h; simp [ask4] at h
        have := K.beq_iff.1 h.1.1.1; rw [this]; rfl
      · rw [ask_0 h1 h2 h3 h4] at h; exact absurd h (by decide)
theorem kfree_in {x : K} (h : x.kind = 3) : kfree x = x := if_pos h
theorem kfree_out {x : K} (h : x.kind ≠ 3) : kfree x = { x with car := 0 } := if_neg h
theorem callComesBack_walk (c : Cfg) (x : K) (car fl : Int) (w : World) : Calls Try.prog 4 #[c.V, x.V, .int .i64 car, .int .i64 fl] w (Yes w true) := by
  by_cases h0 : chkK c x = 0
  · obtain ⟨hok, hask⟩ := chkK_zero h0
    have cn := ans_as (fun W => new_7_8_9 c x W) (new_ok h0)
    by_cases hc : isB c 1 car = true ∧ (x.kind = 3 → x.car = car)
    · have ha : assignK c { x with id := 7, own := 8, born := 9, st := 1 } car = ({ x with id := 7, own := 8, born := 9, st := 2, car := car }, 0) := assign_yes rfl hc.1 hc.2
      have ca := ans_as (fun W => assign_any c { x with id := 7, own := 8, born := 9, st := 1 } car W) ha
      by_cases hf : 1 ≤ fl ∧ fl ≤ c.get 0
      · have hb := (isB_iff (k := 0) hok).2 hf
        have hl : leaveK c { x with id := 7, own := 8, born := 9, st := 2, car := car } fl = ({ x with id := 7, own := 8, born := 9, st := 1 }, 0) := by
          rw [leave_waits rfl hb]
          by_cases h3 : x.kind = 3
          · rw [kfree_in (by exact h3)]
            have := hc.2 h3
            subst this; rfl
          · rw [kfree_out (by exact h3)]
            have := ask_car hask h3
            cases x; simp at this; subst this; rfl
        have cl := ans_as (fun W => leave_any c { x with id := 7, own := 8, born := 9, st := 2, car := car } fl W) hl
        by_cases h4 : x.kind = 4
        · have hbo : boardK { x with id := 7, own := 8, born := 9, st := 2, car := car } = ({ x with id := 7, own := 8, born := 9, st := 3, car := car }, 0) := if_pos ⟨rfl, h4⟩
          have cb := ans_as (fun W => board_any { x with id := 7, own := 8, born := 9, st := 2, car := car } W) hbo
          by_cases ht : x.dto = fl
          · have hle : leaveK c { x with id := 7, own := 8, born := 9, st := 3, car := car } fl = ({ x with id := 7, own := 8, born := 9, st := 4, car := car }, 0) := by
              exact (leave_there (x := { x with id := 7, own := 8, born := 9, st := 3, car := car }) rfl hb ht).trans (if_pos (.inl rfl))
            have ce := ans_as (fun W => leave_any c { x with id := 7, own := 8, born := 9, st := 3, car := car } fl W) hle
            exact cb_there c x { x with id := 7, own := 8, born := 9, st := 1 } { x with id := 7, own := 8, born := 9, st := 2, car := car } { x with id := 7, own := 8, born := 9, st := 3, car := car } { x with id := 7, own := 8, born := 9, st := 4, car := car } x.dto car fl w hf.1 hf.2 ht.symm rfl rfl rfl cn ca cl cb ce
          · have hle : leaveK c { x with id := 7, own := 8, born := 9, st := 3, car := car } fl = ({ x with id := 7, own := 8, born := 9, st := 1, car := 0, frm := fl }, 0) := by
              rw [leave_rode (x := { x with id := 7, own := 8, born := 9, st := 3, car := car }) rfl hb ht, kfree_out (by show x.kind ≠ 3; omega)]
            have ce := ans_as (fun W => leave_any c { x with id := 7, own := 8, born := 9, st := 3, car := car } fl W) hle
            have hi : assignK c { x with id := 7, own := 8, born := 9, st := 1, car := 0, frm := fl } car = ({ x with id := 7, own := 8, born := 9, st := 2, car := car, frm := fl }, 0) := assign_yes rfl hc.1 (fun e => absurd e (by show x.kind ≠ 3; omega))
            have ci := ans_as (fun W => assign_any c { x with id := 7, own := 8, born := 9, st := 1, car := 0, frm := fl } car W) hi
            have cg := num_as (fun W => goal_any { x with id := 7, own := 8, born := 9, st := 2, car := car, frm := fl } W) (n := fl) (if_neg (fun e => by rcases e with e | e <;> simp at e; omega))
            cases d9 : decide (fl < x.dto)
            · have hd : dirK { x with id := 7, own := 8, born := 9, st := 2, car := car, frm := fl } = -1 := by
                simp at d9
                simp [dirK, h4]; omega
              have cd := num_as (fun W => dir_any { x with id := 7, own := 8, born := 9, st := 2, car := car, frm := fl } W) hd
              exact cb_on_false c x { x with id := 7, own := 8, born := 9, st := 1 } { x with id := 7, own := 8, born := 9, st := 2, car := car } { x with id := 7, own := 8, born := 9, st := 3, car := car } { x with id := 7, own := 8, born := 9, st := 1, car := 0, frm := fl } { x with id := 7, own := 8, born := 9, st := 2, car := car, frm := fl } x.dto car fl w hf.1 hf.2 (Ne.symm ht) d9 rfl rfl rfl rfl rfl cn ca cl cb ce ci cg cd
            · have hd : dirK { x with id := 7, own := 8, born := 9, st := 2, car := car, frm := fl } = 1 := by
                simp at d9
                simp [dirK, h4, d9]
              have cd := num_as (fun W => dir_any { x with id := 7, own := 8, born := 9, st := 2, car := car, frm := fl } W) hd
              exact cb_on_true c x { x with id := 7, own := 8, born := 9, st := 1 } { x with id := 7, own := 8, born := 9, st := 2, car := car } { x with id := 7, own := 8, born := 9, st := 3, car := car } { x with id := 7, own := 8, born := 9, st := 1, car := 0, frm := fl } { x with id := 7, own := 8, born := 9, st := 2, car := car, frm := fl } x.dto car fl w hf.1 hf.2 (Ne.symm ht) d9 rfl rfl rfl rfl rfl cn ca cl cb ce ci cg cd
        · have hbo : boardK { x with id := 7, own := 8, born := 9, st := 2, car := car } = (zk, 7) := if_neg (fun e => h4 e.2)
          have cb := ans_as (fun W => board_any { x with id := 7, own := 8, born := 9, st := 2, car := car } W) hbo
          exact cb_other c x { x with id := 7, own := 8, born := 9, st := 1 } { x with id := 7, own := 8, born := 9, st := 2, car := car } car fl w hf.1 hf.2 h4 cn ca cl cb
      · have cl := ans_as (fun W => leave_any c { x with id := 7, own := 8, born := 9, st := 2, car := car } fl W) (leave_no (.inl rfl) (isB_no hf))
        by_cases h1 : fl < 1
        · exact cb_floor0 c x { x with id := 7, own := 8, born := 9, st := 1 } { x with id := 7, own := 8, born := 9, st := 2, car := car } car fl w h1 cn ca cl
        · exact cb_floor1 c x { x with id := 7, own := 8, born := 9, st := 1 } { x with id := 7, own := 8, born := 9, st := 2, car := car } car fl w (by omega) (by omega) cn ca cl
    · have ca := ans_as (fun W => assign_any c { x with id := 7, own := 8, born := 9, st := 1 } car W) (assign_no rfl hc)
      exact cb_car c x { x with id := 7, own := 8, born := 9, st := 1 } car fl w 1 (by decide) cn ca
  · have cn := ans_as (fun W => new_7_8_9 c x W) (new_no rfl h0)
    exact cb_new c x car fl w _ h0 cn
end Go.Proofs.Ytdchokeihnoepaa
