/- A bucket: whether it can be, its level, what is taken, how long till there is one; the document's own. -/
import Derived.Test.YtepfgheliddpmaaBuA
namespace Go.Proofs.Ytepfgheliddpmaa
open Go.RowKit Go.Lib
set_option linter.unusedVariables false
set_option linter.unusedSimpArgs false

set_option maxRecDepth 100000 in
set_option maxHeartbeats 1000000 in
theorem bcheck_any (c : Cfg) (b : Bt) (w : World) : Calls Try.prog 8 #[c.V, b.V] w fun e w' => e = .returned (.bool (okB c b.tok b.last)) ∧ Below w.heap.size w w' := by
  have H := Lib.hid (new2 w c.cells b.cells 24 26)
  have CK := Lib.hid (fun W => check_any c W)
  have CT := Lib.hid (fun W => isTick_any b.last W)
  by_cases hk : okc c = true
  · rw [chk_ok hk] at CK
    by_cases h0 : 0 ≤ b.tok
    · by_cases h1 : b.tok ≤ c.get 7
      · have d0 : decide (0 ≤ b.tok) = true := decide_eq_true h0
        have d1 : decide (b.tok ≤ c.get 7) = true := decide_eq_true h1
        have E : Hid (okB c b.tok b.last = tick b.last) := Lib.hid (by unfold okB; rw [hk, d0, d1]; simp)
        clear h0 h1 hk
        go_enter Try.func8, Try.ntmps8
        go_upto_region 1 with fail
        obtain ⟨W, hW⟩ : ∃ W, (w.alloc (.cells c.cells 24)).alloc (.cells b.cells 26) = W := ⟨_, rfl⟩
        rw [hW] at H ⊢; clear hW
        have HC : Hid (CAt W w.heap.size c) := Lib.hid H.out.2.1
        have HT : Hid (BtAt W (w.heap.size + 1) b) := Lib.hid H.out.2.2
        have HB := Lib.hid H.out.1
        clear H
        generalize w.heap.size + 1 = q at *
        go_wp2_with ((with_reducible apply wpList_load_cat (h := HC.out)); exact rfl; exact rfl; exact rfl)
        refine (CK.out _).mono ?_
        rintro e w1 ⟨rfl, hb⟩
        have k0 := (HT.out.step hb).get0
        have k1 := (HT.out.step hb).get1
        have kc := (HC.out.step hb).get (k := 7) (by omega)
        go_wp2_with fail
        refine (CT.out _).mono ?_
        rintro e w2 ⟨rfl, rfl⟩
        go_wp2_with fail
        go_ret
        exact ⟨ret_bool E.out.symm, HB.out.trans (hb.mono HB.out.size)⟩
      · have d0 : decide (0 ≤ b.tok) = true := decide_eq_true h0
        have d1 : decide (b.tok ≤ c.get 7) = false := decide_eq_false h1
        have E : Hid (okB c b.tok b.last = false) := Lib.hid (by unfold okB; rw [hk, d0, d1]; simp)
        clear h0 h1 hk
        go_enter Try.func8, Try.ntmps8
        go_upto_region 1 with fail
        obtain ⟨W, hW⟩ : ∃ W, (w.alloc (.cells c.cells 24)).alloc (.cells b.cells 26) = W := ⟨_, rfl⟩
        rw [hW] at H ⊢; clear hW
        have HC : Hid (CAt W w.heap.size c) := Lib.hid H.out.2.1
        have HT : Hid (BtAt W (w.heap.size + 1) b) := Lib.hid H.out.2.2
        have HB := Lib.hid H.out.1
        clear H
        generalize w.heap.size + 1 = q at *
        go_wp2_with ((with_reducible apply wpList_load_cat (h := HC.out)); exact rfl; exact rfl; exact rfl)
        refine (CK.out _).mono ?_
        rintro e w1 ⟨rfl, hb⟩
        have k0 := (HT.out.step hb).get0
        have k1 := (HT.out.step hb).get1
        have kc := (HC.out.step hb).get (k := 7) (by omega)
        go_wp2_with fail
        go_ret
        exact ⟨ret_bool E.out.symm, HB.out.trans (hb.mono HB.out.size)⟩
    · have d0 : decide (0 ≤ b.tok) = false := decide_eq_false h0
      have E : Hid (okB c b.tok b.last = false) := Lib.hid (by unfold okB; rw [hk, d0]; simp)
      clear h0 hk
      go_enter Try.func8, Try.ntmps8
      go_upto_region 1 with fail
      obtain ⟨W, hW⟩ : ∃ W, (w.alloc (.cells c.cells 24)).alloc (.cells b.cells 26) = W := ⟨_, rfl⟩
      rw [hW] at H ⊢; clear hW
      have HC : Hid (CAt W w.heap.size c) := Lib.hid H.out.2.1
      have HT : Hid (BtAt W (w.heap.size + 1) b) := Lib.hid H.out.2.2
      have HB := Lib.hid H.out.1
      clear H
      generalize w.heap.size + 1 = q at *
      go_wp2_with ((with_reducible apply wpList_load_cat (h := HC.out)); exact rfl; exact rfl; exact rfl)
      refine (CK.out _).mono ?_
      rintro e w1 ⟨rfl, hb⟩
      have k0 := (HT.out.step hb).get0
      have k1 := (HT.out.step hb).get1
      have kc := (HC.out.step hb).get (k := 7) (by omega)
      go_wp2_with fail
      go_ret
      exact ⟨ret_bool E.out.symm, HB.out.trans (hb.mono HB.out.size)⟩
  · have hk' : okc c = false := by simpa using hk
    rw [chk_no hk'] at CK
    have E : Hid (okB c b.tok b.last = false) := Lib.hid (by unfold okB; rw [hk']; simp)
    clear hk hk'
    go_enter Try.func8, Try.ntmps8
    go_upto_region 1 with fail
    obtain ⟨W, hW⟩ : ∃ W, (w.alloc (.cells c.cells 24)).alloc (.cells b.cells 26) = W := ⟨_, rfl⟩
    rw [hW] at H ⊢; clear hW
    have HC : Hid (CAt W w.heap.size c) := Lib.hid H.out.2.1
    have HT : Hid (BtAt W (w.heap.size + 1) b) := Lib.hid H.out.2.2
    have HB := Lib.hid H.out.1
    clear H
    generalize w.heap.size + 1 = q at *
    go_wp2_with ((with_reducible apply wpList_load_cat (h := HC.out)); exact rfl; exact rfl; exact rfl)
    refine (CK.out _).mono ?_
    rintro e w1 ⟨rfl, hb⟩
    have k0 := (HT.out.step hb).get0
    have k1 := (HT.out.step hb).get1
    have kc := (HC.out.step hb).get (k := 7) (by omega)
    go_wp2_with fail
    go_ret
    exact ⟨ret_bool E.out.symm, HB.out.trans (hb.mono HB.out.size)⟩
end Go.Proofs.Ytepfgheliddpmaa
