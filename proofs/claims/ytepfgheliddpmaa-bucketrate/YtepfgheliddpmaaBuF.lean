/- The document's own level. -/
import Derived.Test.YtepfgheliddpmaaBuE
namespace Go.Proofs.Ytepfgheliddpmaa
open Go.RowKit Go.Lib
set_option linter.unusedVariables false
set_option linter.unusedSimpArgs false

set_option maxRecDepth 100000 in
set_option maxHeartbeats 1000000 in
theorem rlevel_any (c : Cfg) (t l now : Int) (w : World) : Calls Try.prog 10 #[c.V, .int .i64 t, .int .i64 l, .int .i64 now] w fun e w' => e = .returned (.int .i64 (lev c t l now)) ∧ Below w.heap.size w w' := by
  have H := Lib.hid (new1 w c.cells 24)
  have CK := Lib.hid (fun W => rgood_any c t l now W)
  by_cases hg : (okB c t l && tick now) = true
  · rw [hg] at CK
    have hk := (Bool.and_eq_true _ _ ▸ hg : okB c t l = true ∧ tick now = true).1
    have ht := (Bool.and_eq_true _ _ ▸ hg : okB c t l = true ∧ tick now = true).2
    have hr := rate_in (okB_iff.1 hk).1
    have hB := burst_in (okB_iff.1 hk).1
    have ht1 := tick_iff.1 ht
    have ht2 := tick_iff.1 (okB_iff.1 hk).2.2.2
    have ht3 := (okB_iff.1 hk).2.1
    have ht4 := (okB_iff.1 hk).2.2.1
    by_cases hl : l < now
    · have hp := prod_in hr (x := now - l) (by omega)
      have e1 : IntKind.i64.wrap (now - l) = now - l := i64w (by omega) (by omega)
      have e2 : IntKind.i64.wrap (c.get 8 * (now - l)) = c.get 8 * (now - l) := i64w (by omega) (by omega)
      have e3 : IntKind.i64.wrap (t + c.get 8 * (now - l)) = t + c.get 8 * (now - l) := i64w (by omega) (by omega)
      have E0 : Hid (lev c t l now = if c.get 7 < t + c.get 8 * (now - l) then c.get 7 else t + c.get 8 * (now - l)) := Lib.hid (by rw [lev_ok hk ht]; unfold lv; rw [if_pos hl])
      have dl : decide (now > l) = true := decide_eq_true hl
      clear hg hk ht hr hB ht1 ht2 ht3 ht4 hp hl
      by_cases hm : c.get 7 < t + c.get 8 * (now - l)
      · have E : Hid (lev c t l now = c.get 7) := Lib.hid (by rw [E0.out, if_pos hm])
        have dm : decide (t + c.get 8 * (now - l) > c.get 7) = true := decide_eq_true hm
        clear E0 hm
        go_enter Try.func10, Try.ntmps10
        go_upto_region 1 with fail
        obtain ⟨W, hW⟩ : ∃ W, w.alloc (.cells c.cells 24) = W := ⟨_, rfl⟩
        rw [hW] at H ⊢; clear hW
        have HC : Hid (CAt W w.heap.size c) := Lib.hid H.out.2
        have HB := Lib.hid H.out.1
        clear H
        go_wp2_with ((with_reducible apply wpList_load_cat (h := HC.out)); exact rfl; exact rfl; exact rfl)
        refine (CK.out _).mono ?_
        rintro e w1 ⟨rfl, hb⟩
        have kc := (HC.out.step hb).get (k := 7) (by omega)
        have kr := (HC.out.step hb).get (k := 8) (by omega)
        go_wp2_with fail
        go_ret
        exact ⟨ret_int E.out.symm, HB.out.trans (hb.mono HB.out.size)⟩
      · have E : Hid (lev c t l now = t + c.get 8 * (now - l)) := Lib.hid (by rw [E0.out, if_neg hm])
        have dm : decide (t + c.get 8 * (now - l) > c.get 7) = false := decide_eq_false hm
        clear E0 hm
        go_enter Try.func10, Try.ntmps10
        go_upto_region 1 with fail
        obtain ⟨W, hW⟩ : ∃ W, w.alloc (.cells c.cells 24) = W := ⟨_, rfl⟩
        rw [hW] at H ⊢; clear hW
        have HC : Hid (CAt W w.heap.size c) := Lib.hid H.out.2
        have HB := Lib.hid H.out.1
        clear H
        go_wp2_with ((with_reducible apply wpList_load_cat (h := HC.out)); exact rfl; exact rfl; exact rfl)
        refine (CK.out _).mono ?_
        rintro e w1 ⟨rfl, hb⟩
        have kc := (HC.out.step hb).get (k := 7) (by omega)
        have kr := (HC.out.step hb).get (k := 8) (by omega)
        go_wp2_with fail
        go_ret
        exact ⟨ret_int E.out.symm, HB.out.trans (hb.mono HB.out.size)⟩
    · have E : Hid (lev c t l now = t) := Lib.hid (by rw [lev_ok hk ht]; unfold lv; rw [if_neg hl, if_neg (by omega)])
      have dl : decide (now > l) = false := decide_eq_false hl
      have dm : decide (t > c.get 7) = false := decide_eq_false (by omega)
      clear hg hk ht hr hB ht1 ht2 ht3 ht4 hl
      go_enter Try.func10, Try.ntmps10
      go_upto_region 1 with fail
      obtain ⟨W, hW⟩ : ∃ W, w.alloc (.cells c.cells 24) = W := ⟨_, rfl⟩
      rw [hW] at H ⊢; clear hW
      have HC : Hid (CAt W w.heap.size c) := Lib.hid H.out.2
      have HB := Lib.hid H.out.1
      clear H
      go_wp2_with ((with_reducible apply wpList_load_cat (h := HC.out)); exact rfl; exact rfl; exact rfl)
      refine (CK.out _).mono ?_
      rintro e w1 ⟨rfl, hb⟩
      have kc := (HC.out.step hb).get (k := 7) (by omega)
      have kr := (HC.out.step hb).get (k := 8) (by omega)
      go_wp2_with fail
      go_ret
      exact ⟨ret_int E.out.symm, HB.out.trans (hb.mono HB.out.size)⟩
  · have hg' : (okB c t l && tick now) = false := by simpa using hg
    rw [hg'] at CK
    have E : Hid (lev c t l now = 0) := Lib.hid (by unfold lev; rw [hg']; simp)
    clear hg hg'
    go_enter Try.func10, Try.ntmps10
    go_upto_region 1 with fail
    obtain ⟨W, hW⟩ : ∃ W, w.alloc (.cells c.cells 24) = W := ⟨_, rfl⟩
    rw [hW] at H ⊢; clear hW
    have HC : Hid (CAt W w.heap.size c) := Lib.hid H.out.2
    have HB := Lib.hid H.out.1
    clear H
    go_wp2_with ((with_reducible apply wpList_load_cat (h := HC.out)); exact rfl; exact rfl; exact rfl)
    refine (CK.out _).mono ?_
    rintro e w1 ⟨rfl, hb⟩
    have kc := (HC.out.step hb).get (k := 7) (by omega)
    have kr := (HC.out.step hb).get (k := 8) (by omega)
    go_wp2_with fail
    go_ret
    exact ⟨ret_int E.out.symm, HB.out.trans (hb.mono HB.out.size)⟩
end Go.Proofs.Ytepfgheliddpmaa
