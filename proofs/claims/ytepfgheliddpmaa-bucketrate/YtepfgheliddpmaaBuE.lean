/- How long till there is one; the document's own. -/
import Derived.Test.YtepfgheliddpmaaBuD
namespace Go.Proofs.Ytepfgheliddpmaa
open Go.RowKit Go.Lib
set_option linter.unusedVariables false
set_option linter.unusedSimpArgs false

/-- how many ticks more -/
def unt (c : Cfg) (b : Bt) (now : Int) : Int := if okB c b.tok b.last && tick now then (if 0 < lev c b.tok b.last now then 0 else b.last - now + 1) else -1

set_option maxRecDepth 100000 in
set_option maxHeartbeats 1000000 in
theorem buntil_any (c : Cfg) (b : Bt) (now : Int) (w : World) : Calls Try.prog 13 #[c.V, b.V, .int .i64 now] w fun e w' => e = .returned (.int .i64 (unt c b now)) ∧ Below w.heap.size w w' := by
  have H := Lib.hid (new2 w c.cells b.cells 24 26)
  have CK := Lib.hid (fun W => hasLevel_any c b now W)
  have CL := Lib.hid (fun W => blevel_any c b now W)
  by_cases hg : (okB c b.tok b.last && tick now) = true
  · rw [hg] at CK
    have hk := (Bool.and_eq_true _ _ ▸ hg : okB c b.tok b.last = true ∧ tick now = true).1
    have ht := (Bool.and_eq_true _ _ ▸ hg : okB c b.tok b.last = true ∧ tick now = true).2
    have ht1 := tick_iff.1 ht
    have ht2 := tick_iff.1 (okB_iff.1 hk).2.2.2
    by_cases h0 : 0 < lev c b.tok b.last now
    · have E : Hid (unt c b now = 0) := Lib.hid (by unfold unt; rw [hk, ht, if_pos h0]; rfl)
      have d0 : decide (lev c b.tok b.last now > 0) = true := decide_eq_true h0
      clear hg hk ht ht1 ht2 h0
      generalize lev c b.tok b.last now = n at *
      go_enter Try.func13, Try.ntmps13
      go_upto_region 1 with fail
      obtain ⟨W, hW⟩ : ∃ W, (w.alloc (.cells c.cells 24)).alloc (.cells b.cells 26) = W := ⟨_, rfl⟩
      rw [hW] at H ⊢; clear hW
      have HC : Hid (CAt W w.heap.size c) := Lib.hid H.out.2.1
      have HT : Hid (BtAt W (w.heap.size + 1) b) := Lib.hid H.out.2.2
      have HB := Lib.hid H.out.1
      clear H
      generalize w.heap.size + 1 = q at *
      go_wp2_with (first | ((with_reducible apply wpList_load_cat (h := HC.out)); exact rfl; exact rfl; exact rfl) | ((with_reducible apply wpList_load_bt (h := HT.out)); exact rfl; exact rfl; exact rfl))
      refine (CK.out _).mono ?_
      rintro e w1 ⟨rfl, hb⟩
      have HC1 := Lib.hid (HC.out.step hb)
      have HT1 := Lib.hid (HT.out.step hb)
      have HB1 := Lib.hid (HB.out.trans (hb.mono HB.out.size))
      clear hb HC HT HB CK
      go_wp2_with (first | ((with_reducible apply wpList_load_cat (h := HC1.out)); exact rfl; exact rfl; exact rfl) | ((with_reducible apply wpList_load_bt (h := HT1.out)); exact rfl; exact rfl; exact rfl))
      refine (CL.out _).mono ?_
      rintro e w3 ⟨rfl, hb⟩
      go_wp2_with fail
      go_ret
      exact ⟨ret_int E.out.symm, HB1.out.trans (hb.mono HB1.out.size)⟩
    · have E : Hid (unt c b now = b.last + 1 - now) := Lib.hid (by unfold unt; rw [hk, ht, if_neg h0]; simp; omega)
      have d0 : decide (lev c b.tok b.last now > 0) = false := decide_eq_false h0
      have e1 : IntKind.i64.wrap (b.last + 1) = b.last + 1 := i64w (by omega) (by omega)
      have e2 : IntKind.i64.wrap (b.last + 1 - now) = b.last + 1 - now := i64w (by omega) (by omega)
      clear hg hk ht ht1 ht2 h0
      generalize lev c b.tok b.last now = n at *
      go_enter Try.func13, Try.ntmps13
      go_upto_region 1 with fail
      obtain ⟨W, hW⟩ : ∃ W, (w.alloc (.cells c.cells 24)).alloc (.cells b.cells 26) = W := ⟨_, rfl⟩
      rw [hW] at H ⊢; clear hW
      have HC : Hid (CAt W w.heap.size c) := Lib.hid H.out.2.1
      have HT : Hid (BtAt W (w.heap.size + 1) b) := Lib.hid H.out.2.2
      have HB := Lib.hid H.out.1
      clear H
      generalize w.heap.size + 1 = q at *
      go_wp2_with (first | ((with_reducible apply wpList_load_cat (h := HC.out)); exact rfl; exact rfl; exact rfl) | ((with_reducible apply wpList_load_bt (h := HT.out)); exact rfl; exact rfl; exact rfl))
      refine (CK.out _).mono ?_
      rintro e w1 ⟨rfl, hb⟩
      have HC1 := Lib.hid (HC.out.step hb)
      have HT1 := Lib.hid (HT.out.step hb)
      have HB1 := Lib.hid (HB.out.trans (hb.mono HB.out.size))
      clear hb HC HT HB CK
      go_wp2_with (first | ((with_reducible apply wpList_load_cat (h := HC1.out)); exact rfl; exact rfl; exact rfl) | ((with_reducible apply wpList_load_bt (h := HT1.out)); exact rfl; exact rfl; exact rfl))
      refine (CL.out _).mono ?_
      rintro e w3 ⟨rfl, hb⟩
      have k1 := (HT1.out.step hb).get1
      go_wp2_with fail
      go_ret
      exact ⟨ret_int E.out.symm, HB1.out.trans (hb.mono HB1.out.size)⟩
  · have hg' : (okB c b.tok b.last && tick now) = false := by simpa using hg
    rw [hg'] at CK
    have E : Hid (unt c b now = -1) := Lib.hid (by unfold unt; rw [hg']; simp)
    clear hg hg'
    go_enter Try.func13, Try.ntmps13
    go_upto_region 1 with fail
    obtain ⟨W, hW⟩ : ∃ W, (w.alloc (.cells c.cells 24)).alloc (.cells b.cells 26) = W := ⟨_, rfl⟩
    rw [hW] at H ⊢; clear hW
    have HC : Hid (CAt W w.heap.size c) := Lib.hid H.out.2.1
    have HT : Hid (BtAt W (w.heap.size + 1) b) := Lib.hid H.out.2.2
    have HB := Lib.hid H.out.1
    clear H
    generalize w.heap.size + 1 = q at *
    go_wp2_with (first | ((with_reducible apply wpList_load_cat (h := HC.out)); exact rfl; exact rfl; exact rfl) | ((with_reducible apply wpList_load_bt (h := HT.out)); exact rfl; exact rfl; exact rfl))
    refine (CK.out _).mono ?_
    rintro e w1 ⟨rfl, hb⟩
    go_wp2_with fail
    go_ret
    exact ⟨ret_int E.out.symm, HB.out.trans (hb.mono HB.out.size)⟩

set_option maxRecDepth 100000 in
set_option maxHeartbeats 2000000 in
theorem rgood_any (c : Cfg) (t l now : Int) (w : World) : Calls Try.prog 9 #[c.V, .int .i64 t, .int .i64 l, .int .i64 now] w fun e w' => e = .returned (.bool (okB c t l && tick now)) ∧ Below w.heap.size w w' := by
  have H := Lib.hid (new1 w c.cells 24)
  have CK := Lib.hid (fun W => good_any c W)
  by_cases hk : okc c = true
  · rw [hk] at CK
    by_cases h0 : 0 ≤ t
    · have d0 : decide (0 ≤ t) = true := decide_eq_true h0
      clear h0
      by_cases h1 : t ≤ c.get 7
      · have d1 : decide (t ≤ c.get 7) = true := decide_eq_true h1
        clear h1
        by_cases h2 : 0 ≤ l
        · have d2 : decide (0 ≤ l) = true := decide_eq_true h2
          clear h2
          by_cases h3 : l ≤ 1073741824
          · have d3 : decide (l ≤ 1073741824) = true := decide_eq_true h3
            clear h3
            by_cases h4 : 0 ≤ now
            · have d4 : decide (0 ≤ now) = true := decide_eq_true h4
              clear h4
              by_cases h5 : now ≤ 1073741824
              · have d5 : decide (now ≤ 1073741824) = true := decide_eq_true h5
                clear h5
                have E : Hid ((okB c t l && tick now) = true) := Lib.hid (by unfold okB tick; rw [hk, d0, d1, d2, d3, d4, d5]; rfl)
                clear hk
                go_enter Try.func9, Try.ntmps9
                go_upto_region 1 with fail
                obtain ⟨W, hW⟩ : ∃ W, w.alloc (.cells c.cells 24) = W := ⟨_, rfl⟩
                rw [hW] at H ⊢; clear hW
                have HC : Hid (CAt W w.heap.size c) := Lib.hid H.out.2
                have HB := Lib.hid H.out.1
                clear H
                go_wp2_with ((with_reducible apply wpList_load_cat (h := HC.out)); exact rfl; exact rfl; exact rfl)
                refine (CK.out _).mono ?_
                rintro e w1 ⟨rfl, hb⟩
                have kc := (HC.out.step hb).get (k := 7) (by omega)
                go_wp2_with fail
                go_ret
                exact ⟨ret_bool E.out.symm, HB.out.trans (hb.mono HB.out.size)⟩
              · have d5 : decide (now ≤ 1073741824) = false := decide_eq_false h5
                clear h5
                have E : Hid ((okB c t l && tick now) = false) := Lib.hid (by unfold okB tick; rw [hk, d0, d1, d2, d3, d4, d5]; simp)
                clear hk
                go_enter Try.func9, Try.ntmps9
                go_upto_region 1 with fail
                obtain ⟨W, hW⟩ : ∃ W, w.alloc (.cells c.cells 24) = W := ⟨_, rfl⟩
                rw [hW] at H ⊢; clear hW
                have HC : Hid (CAt W w.heap.size c) := Lib.hid H.out.2
                have HB := Lib.hid H.out.1
                clear H
                go_wp2_with ((with_reducible apply wpList_load_cat (h := HC.out)); exact rfl; exact rfl; exact rfl)
                refine (CK.out _).mono ?_
                rintro e w1 ⟨rfl, hb⟩
                have kc := (HC.out.step hb).get (k := 7) (by omega)
                go_wp2_with fail
                go_ret
                exact ⟨ret_bool E.out.symm, HB.out.trans (hb.mono HB.out.size)⟩
            · have d4 : decide (0 ≤ now) = false := decide_eq_false h4
              clear h4
              have E : Hid ((okB c t l && tick now) = false) := Lib.hid (by unfold okB tick; rw [hk, d0, d1, d2, d3, d4]; simp)
              clear hk
              go_enter Try.func9, Try.ntmps9
              go_upto_region 1 with fail
              obtain ⟨W, hW⟩ : ∃ W, w.alloc (.cells c.cells 24) = W := ⟨_, rfl⟩
              rw [hW] at H ⊢; clear hW
              have HC : Hid (CAt W w.heap.size c) := Lib.hid H.out.2
              have HB := Lib.hid H.out.1
              clear H
              go_wp2_with ((with_reducible apply wpList_load_cat (h := HC.out)); exact rfl; exact rfl; exact rfl)
              refine (CK.out _).mono ?_
              rintro e w1 ⟨rfl, hb⟩
              have kc := (HC.out.step hb).get (k := 7) (by omega)
              go_wp2_with fail
              go_ret
              exact ⟨ret_bool E.out.symm, HB.out.trans (hb.mono HB.out.size)⟩
          · have d3 : decide (l ≤ 1073741824) = false := decide_eq_false h3
            clear h3
            have E : Hid ((okB c t l && tick now) = false) := Lib.hid (by unfold okB tick; rw [hk, d0, d1, d2, d3]; simp)
            clear hk
            go_enter Try.func9, Try.ntmps9
            go_upto_region 1 with fail
            obtain ⟨W, hW⟩ : ∃ W, w.alloc (.cells c.cells 24) = W := ⟨_, rfl⟩
            rw [hW] at H ⊢; clear hW
            have HC : Hid (CAt W w.heap.size c) := Lib.hid H.out.2
            have HB := Lib.hid H.out.1
            clear H
            go_wp2_with ((with_reducible apply wpList_load_cat (h := HC.out)); exact rfl; exact rfl; exact rfl)
            refine (CK.out _).mono ?_
            rintro e w1 ⟨rfl, hb⟩
            have kc := (HC.out.step hb).get (k := 7) (by omega)
            go_wp2_with fail
            go_ret
            exact ⟨ret_bool E.out.symm, HB.out.trans (hb.mono HB.out.size)⟩
        · have d2 : decide (0 ≤ l) = false := decide_eq_false h2
          clear h2
          have E : Hid ((okB c t l && tick now) = false) := Lib.hid (by unfold okB tick; rw [hk, d0, d1, d2]; simp)
          clear hk
          go_enter Try.func9, Try.ntmps9
          go_upto_region 1 with fail
          obtain ⟨W, hW⟩ : ∃ W, w.alloc (.cells c.cells 24) = W := ⟨_, rfl⟩
          rw [hW] at H ⊢; clear hW
          have HC : Hid (CAt W w.heap.size c) := Lib.hid H.out.2
          have HB := Lib.hid H.out.1
          clear H
          go_wp2_with ((with_reducible apply wpList_load_cat (h := HC.out)); exact rfl; exact rfl; exact rfl)
          refine (CK.out _).mono ?_
          rintro e w1 ⟨rfl, hb⟩
          have kc := (HC.out.step hb).get (k := 7) (by omega)
          go_wp2_with fail
          go_ret
          exact ⟨ret_bool E.out.symm, HB.out.trans (hb.mono HB.out.size)⟩
      · have d1 : decide (t ≤ c.get 7) = false := decide_eq_false h1
        clear h1
        have E : Hid ((okB c t l && tick now) = false) := Lib.hid (by unfold okB tick; rw [hk, d0, d1]; simp)
        clear hk
        go_enter Try.func9, Try.ntmps9
        go_upto_region 1 with fail
        obtain ⟨W, hW⟩ : ∃ W, w.alloc (.cells c.cells 24) = W := ⟨_, rfl⟩
        rw [hW] at H ⊢; clear hW
        have HC : Hid (CAt W w.heap.size c) := Lib.hid H.out.2
        have HB := Lib.hid H.out.1
        clear H
        go_wp2_with ((with_reducible apply wpList_load_cat (h := HC.out)); exact rfl; exact rfl; exact rfl)
        refine (CK.out _).mono ?_
        rintro e w1 ⟨rfl, hb⟩
        have kc := (HC.out.step hb).get (k := 7) (by omega)
        go_wp2_with fail
        go_ret
        exact ⟨ret_bool E.out.symm, HB.out.trans (hb.mono HB.out.size)⟩
    · have d0 : decide (0 ≤ t) = false := decide_eq_false h0
      clear h0
      have E : Hid ((okB c t l && tick now) = false) := Lib.hid (by unfold okB tick; rw [hk, d0]; simp)
      clear hk
      go_enter Try.func9, Try.ntmps9
      go_upto_region 1 with fail
      obtain ⟨W, hW⟩ : ∃ W, w.alloc (.cells c.cells 24) = W := ⟨_, rfl⟩
      rw [hW] at H ⊢; clear hW
      have HC : Hid (CAt W w.heap.size c) := Lib.hid H.out.2
      have HB := Lib.hid H.out.1
      clear H
      go_wp2_with ((with_reducible apply wpList_load_cat (h := HC.out)); exact rfl; exact rfl; exact rfl)
      refine (CK.out _).mono ?_
      rintro e w1 ⟨rfl, hb⟩
      have kc := (HC.out.step hb).get (k := 7) (by omega)
      go_wp2_with fail
      go_ret
      exact ⟨ret_bool E.out.symm, HB.out.trans (hb.mono HB.out.size)⟩
  · have hk' : okc c = false := by simpa using hk
    rw [hk'] at CK
    have E : Hid ((okB c t l && tick now) = false) := Lib.hid (by unfold okB; rw [hk']; simp)
    clear hk hk'
    go_enter Try.func9, Try.ntmps9
    go_upto_region 1 with fail
    obtain ⟨W, hW⟩ : ∃ W, w.alloc (.cells c.cells 24) = W := ⟨_, rfl⟩
    rw [hW] at H ⊢; clear hW
    have HC : Hid (CAt W w.heap.size c) := Lib.hid H.out.2
    have HB := Lib.hid H.out.1
    clear H
    go_wp2_with ((with_reducible apply wpList_load_cat (h := HC.out)); exact rfl; exact rfl; exact rfl)
    refine (CK.out _).mono ?_
    rintro e w1 ⟨rfl, hb⟩
    have kc := (HC.out.step hb).get (k := 7) (by omega)
    go_wp2_with fail
    go_ret
    exact ⟨ret_bool E.out.symm, HB.out.trans (hb.mono HB.out.size)⟩
end Go.Proofs.Ytepfgheliddpmaa
