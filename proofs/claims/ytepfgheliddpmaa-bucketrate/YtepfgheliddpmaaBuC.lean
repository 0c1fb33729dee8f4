/- A bucket's level. -/
import Derived.Test.YtepfgheliddpmaaBuB
import Derived.Test.YtepfgheliddpmaaOrder2
namespace Go.Proofs.Ytepfgheliddpmaa
open Go.RowKit Go.Lib
set_option linter.unusedVariables false
set_option linter.unusedSimpArgs false

theorem prod_in {r x : Int} (hr : 1 ≤ r ∧ r ≤ 1024) (hx : 0 ≤ x ∧ x ≤ 1073741824) : 0 ≤ r * x ∧ r * x ≤ 1099511627776 := by
  have h1 := Int.mul_le_mul hr.2 hx.2 hx.1 (by omega)
  have h2 := Int.mul_nonneg (show 0 ≤ r by omega) hx.1
  omega
theorem i64w {x : Int} (h1 : -9000000000000 ≤ x) (h2 : x ≤ 9000000000000) : IntKind.i64.wrap x = x := IntWalk.i64_in x ⟨by omega, by omega⟩
theorem lev_no {c : Cfg} {t l now : Int} (h : okB c t l = false ∨ tick now = false) : lev c t l now = 0 := by
  unfold lev; rcases h with h | h <;> rw [h] <;> simp
theorem lev_ok {c : Cfg} {t l now : Int} (h : okB c t l = true) (h' : tick now = true) : lev c t l now = lv (c.get 8) (c.get 7) t l now := by
  unfold lev; rw [h, h']; simp
/-- how many come within so many ticks: those of the first Burst ticks at most -/
def cm (c : Cfg) (n : Int) : Int := c.get 8 * max 0 (min n (c.get 7))
theorem cm_in {c : Cfg} (h : okc c = true) (n : Int) : 0 ≤ cm c n ∧ cm c n ≤ 1099511627776 := by
  have hr := rate_in h
  have hB := burst_in h
  exact prod_in hr (by omega)
/-- more of them needn't be counted -/
theorem lv_cm {c : Cfg} {t l now : Int} (h : okc c = true) (ht : 0 ≤ t) : lv (c.get 8) (c.get 7) t l now = min (t + cm c (now - l)) (c.get 7) := by
  have hr := rate_in h
  have hB := burst_in h
  rw [lv_min]
  unfold cm
  generalize c.get 8 = r at *
  generalize c.get 7 = B at *
  generalize now - l = d at *
  by_cases h1 : d ≤ B
  · rw [show min d B = d by omega]; omega
  · have e1 : max 0 (min d B) = B := by omega
    have e2 : max 0 d = d := by omega
    rw [e1, e2]
    have m1 := mul_mono (r := r) (by omega) (show B ≤ d by omega)
    have m2 := Int.mul_le_mul_of_nonneg_right (c := B) hr.1 (by omega)
    rw [Int.one_mul] at m2
    omega

set_option maxRecDepth 100000 in
set_option maxHeartbeats 1000000 in
theorem come_any (c : Cfg) (hk : okc c = true) (n : Int) (w : World) : Calls Try.prog 20 #[c.V, .int .i64 n] w fun e w' => e = .returned (.int .i64 (cm c n)) ∧ Below w.heap.size w w' := by
  have H := Lib.hid (new1 w c.cells 24)
  have hr := rate_in hk
  have hB := burst_in hk
  by_cases h1 : n < c.get 7
  · rcases Int.lt_trichotomy n 0 with hl | hl | hl
    · have E : Hid (cm c n = 0) := Lib.hid (by unfold cm; rw [show max 0 (min n (c.get 7)) = 0 by omega, Int.mul_zero])
      have h2 : ¬ 0 < n := by omega
      have h3 : ¬ 0 ≤ n := by omega
      have h4 : n ≤ c.get 7 := by omega
      have e3 : wrap64 0 = 0 := IntWalk.wrap64_in 0 (by omega)
      have e4 : IntKind.i64.wrap 0 = 0 := i64w (by omega) (by omega)
      clear hk hr hB
      go_enter Try.func20, Try.ntmps20
      go_upto_region 1 with fail
      obtain ⟨W, hW⟩ : ∃ W, w.alloc (.cells c.cells 24) = W := ⟨_, rfl⟩
      rw [hW] at H ⊢; clear hW
      have HC : Hid (CAt W w.heap.size c) := Lib.hid H.out.2
      have HB := Lib.hid H.out.1
      clear H
      have kc := HC.out.get (k := 7) (by omega)
      have kr := HC.out.get (k := 8) (by omega)
      go_wp2_with fail
      go_ret
      exact ⟨ret_int E.out.symm, HB.out⟩
    · subst hl
      have E : Hid (cm c 0 = 0) := Lib.hid (by unfold cm; rw [show max 0 (min 0 (c.get 7)) = 0 by omega, Int.mul_zero])
      have h4 : 0 ≤ c.get 7 := by omega
      have e3 : wrap64 0 = 0 := IntWalk.wrap64_in 0 (by omega)
      have e4 : IntKind.i64.wrap 0 = 0 := i64w (by omega) (by omega)
      clear hk hr hB
      go_enter Try.func20, Try.ntmps20
      go_upto_region 1 with fail
      obtain ⟨W, hW⟩ : ∃ W, w.alloc (.cells c.cells 24) = W := ⟨_, rfl⟩
      rw [hW] at H ⊢; clear hW
      have HC : Hid (CAt W w.heap.size c) := Lib.hid H.out.2
      have HB := Lib.hid H.out.1
      clear H
      have kc := HC.out.get (k := 7) (by omega)
      have kr := HC.out.get (k := 8) (by omega)
      go_wp2_with fail
      go_ret
      exact ⟨ret_int E.out.symm, HB.out⟩
    · have E : Hid (cm c n = c.get 8 * n) := Lib.hid (by unfold cm; rw [show max 0 (min n (c.get 7)) = n by omega])
      have hp := prod_in hr (x := n) (by omega)
      have e2 : IntKind.i64.wrap (c.get 8 * n) = c.get 8 * n := i64w (by omega) (by omega)
      have h2 : ¬ n < 0 := by omega
      have h3 : ¬ n ≤ 0 := by omega
      have h4 : n ≤ c.get 7 := by omega
      clear hk hr hB hp
      go_enter Try.func20, Try.ntmps20
      go_upto_region 1 with fail
      obtain ⟨W, hW⟩ : ∃ W, w.alloc (.cells c.cells 24) = W := ⟨_, rfl⟩
      rw [hW] at H ⊢; clear hW
      have HC : Hid (CAt W w.heap.size c) := Lib.hid H.out.2
      have HB := Lib.hid H.out.1
      clear H
      have kc := HC.out.get (k := 7) (by omega)
      have kr := HC.out.get (k := 8) (by omega)
      go_wp2_with fail
      go_ret
      exact ⟨ret_int E.out.symm, HB.out⟩
  · have E : Hid (cm c n = c.get 8 * c.get 7) := Lib.hid (by unfold cm; rw [show max 0 (min n (c.get 7)) = c.get 7 by omega])
    have hp := prod_in hr (x := c.get 7) (by omega)
    have e2 : IntKind.i64.wrap (c.get 8 * c.get 7) = c.get 8 * c.get 7 := i64w (by omega) (by omega)
    have h2 : 0 < c.get 7 := by omega
    have h5 : ¬ c.get 7 < 0 := by omega
    have h6 : ¬ c.get 7 ≤ 0 := by omega
    clear hk hr hB hp
    rcases Int.lt_trichotomy (c.get 7) n with hl | hl | hl
    · have h3 : ¬ n ≤ c.get 7 := by omega
      have h4 : c.get 7 ≤ n := by omega
      go_enter Try.func20, Try.ntmps20
      go_upto_region 1 with fail
      obtain ⟨W, hW⟩ : ∃ W, w.alloc (.cells c.cells 24) = W := ⟨_, rfl⟩
      rw [hW] at H ⊢; clear hW
      have HC : Hid (CAt W w.heap.size c) := Lib.hid H.out.2
      have HB := Lib.hid H.out.1
      clear H
      have kc := HC.out.get (k := 7) (by omega)
      have kr := HC.out.get (k := 8) (by omega)
      go_wp2_with fail
      go_ret
      exact ⟨ret_int E.out.symm, HB.out⟩
    · subst hl
      go_enter Try.func20, Try.ntmps20
      go_upto_region 1 with fail
      obtain ⟨W, hW⟩ : ∃ W, w.alloc (.cells c.cells 24) = W := ⟨_, rfl⟩
      rw [hW] at H ⊢; clear hW
      have HC : Hid (CAt W w.heap.size c) := Lib.hid H.out.2
      have HB := Lib.hid H.out.1
      clear H
      have kc := HC.out.get (k := 7) (by omega)
      have kr := HC.out.get (k := 8) (by omega)
      go_wp2_with fail
      go_ret
      exact ⟨ret_int E.out.symm, HB.out⟩
    · exact absurd hl h1

set_option maxRecDepth 100000 in
set_option maxHeartbeats 1000000 in
theorem hasLevel_any (c : Cfg) (b : Bt) (now : Int) (w : World) : Calls Try.prog 19 #[c.V, b.V, .int .i64 now] w fun e w' => e = .returned (.bool (okB c b.tok b.last && tick now)) ∧ Below w.heap.size w w' := by
  have H := Lib.hid (new2 w c.cells b.cells 24 26)
  have CK := Lib.hid (fun W => bcheck_any c b W)
  have CT := Lib.hid (fun W => isTick_any now W)
  by_cases hk : okB c b.tok b.last = true
  · have E : Hid ((okB c b.tok b.last && tick now) = tick now) := Lib.hid (by rw [hk]; rfl)
    rw [hk] at CK
    clear hk
    go_enter Try.func19, Try.ntmps19
    go_upto_region 1 with fail
    obtain ⟨W, hW⟩ : ∃ W, (w.alloc (.cells c.cells 24)).alloc (.cells b.cells 26) = W := ⟨_, rfl⟩
    rw [hW] at H ⊢; clear hW
    have HC : Hid (CAt W w.heap.size c) := Lib.hid H.out.2.1
    have HT : Hid (BtAt W (w.heap.size + 1) b) := Lib.hid H.out.2.2
    have HB := Lib.hid H.out.1
    clear H
    generalize w.heap.size + 1 = q at *
    go_wp2_with (first | ((with_reducible apply wpList_load_cat (h := HC.out)); exact rfl; exact rfl; exact rfl) | ((with_reducible apply wpList_load_bt (h := HT.out)); exact rfl; exact rfl; exact rfl))
    refine (CK.out _).mono ?_
    rintro e w1 ⟨rfl, hb⟩
    go_wp2_with fail
    refine (CT.out _).mono ?_
    rintro e w2 ⟨rfl, rfl⟩
    go_wp2_with fail
    go_ret
    exact ⟨ret_bool E.out.symm, HB.out.trans (hb.mono HB.out.size)⟩
  · have hk' : okB c b.tok b.last = false := by simpa using hk
    have E : Hid ((okB c b.tok b.last && tick now) = false) := Lib.hid (by rw [hk']; rfl)
    rw [hk'] at CK
    clear hk hk'
    go_enter Try.func19, Try.ntmps19
    go_upto_region 1 with fail
    obtain ⟨W, hW⟩ : ∃ W, (w.alloc (.cells c.cells 24)).alloc (.cells b.cells 26) = W := ⟨_, rfl⟩
    rw [hW] at H ⊢; clear hW
    have HC : Hid (CAt W w.heap.size c) := Lib.hid H.out.2.1
    have HT : Hid (BtAt W (w.heap.size + 1) b) := Lib.hid H.out.2.2
    have HB := Lib.hid H.out.1
    clear H
    generalize w.heap.size + 1 = q at *
    go_wp2_with (first | ((with_reducible apply wpList_load_cat (h := HC.out)); exact rfl; exact rfl; exact rfl) | ((with_reducible apply wpList_load_bt (h := HT.out)); exact rfl; exact rfl; exact rfl))
    refine (CK.out _).mono ?_
    rintro e w1 ⟨rfl, hb⟩
    go_wp2_with fail
    go_ret
    exact ⟨ret_bool E.out.symm, HB.out.trans (hb.mono HB.out.size)⟩

set_option maxRecDepth 100000 in
set_option maxHeartbeats 1000000 in
theorem blevel_any (c : Cfg) (b : Bt) (now : Int) (w : World) : Calls Try.prog 12 #[c.V, b.V, .int .i64 now] w fun e w' => e = .returned (.int .i64 (lev c b.tok b.last now)) ∧ Below w.heap.size w w' := by
  have H := Lib.hid (new2 w c.cells b.cells 24 26)
  have CK := Lib.hid (fun W => hasLevel_any c b now W)
  by_cases hg : (okB c b.tok b.last && tick now) = true
  · rw [hg] at CK
    have hk := (Bool.and_eq_true _ _ ▸ hg : okB c b.tok b.last = true ∧ tick now = true).1
    have ht := (Bool.and_eq_true _ _ ▸ hg : okB c b.tok b.last = true ∧ tick now = true).2
    have hok := (okB_iff.1 hk).1
    have hB := burst_in hok
    have ht1 := tick_iff.1 ht
    have ht2 := tick_iff.1 (okB_iff.1 hk).2.2.2
    have ht3 := (okB_iff.1 hk).2.1
    have ht4 := (okB_iff.1 hk).2.2.1
    have hc := cm_in hok (now - b.last)
    have CC := Lib.hid (fun W => come_any c hok (now - b.last) W)
    have x1 : IntKind.i64.wrap (now - b.last) = now - b.last := i64w (by omega) (by omega)
    have x3 : IntKind.i64.wrap (b.tok + cm c (now - b.last)) = b.tok + cm c (now - b.last) := i64w (by omega) (by omega)
    have E : Hid (lev c b.tok b.last now = min (b.tok + cm c (now - b.last)) (c.get 7)) := Lib.hid (by rw [lev_ok hk ht, lv_cm hok ht3])
    obtain ⟨n, hn⟩ : ∃ n, min (b.tok + cm c (now - b.last)) (c.get 7) = n := ⟨_, rfl⟩
    rw [hn] at E
    have em : (if c.get 7 < b.tok + cm c (now - b.last) then c.get 7 else b.tok + cm c (now - b.last)) = n := by rw [← hn]; split <;> omega
    clear hg hk ht hok hB ht1 ht2 ht3 ht4 hc hn
    go_enter Try.func12, Try.ntmps12
    go_upto_region 1 with fail
    obtain ⟨W, hW⟩ : ∃ W, (w.alloc (.cells c.cells 24)).alloc (.cells b.cells 26) = W := ⟨_, rfl⟩
    rw [hW] at H ⊢; clear hW
    have HC : Hid (CAt W w.heap.size c) := Lib.hid H.out.2.1
    have HT : Hid (BtAt W (w.heap.size + 1) b) := Lib.hid H.out.2.2
    have HB := Lib.hid H.out.1
    clear H
    generalize w.heap.size + 1 = q at *
    go_wp2_with (first | ((with_reducible apply wpList_load_cat (h := HC.out)); exact rfl; exact rfl; exact rfl) | ((with_reducible apply wpList_load_bt (h := HT.out)); exact rfl; exact rfl; exact rfl))
    refine (CK.out _).mono ?_
    rintro e V ⟨rfl, hb⟩
    replace HC := Lib.hid (HC.out.step hb)
    replace HT := Lib.hid (HT.out.step hb)
    replace HB := Lib.hid (HB.out.trans (hb.mono HB.out.size))
    clear hb CK
    go_upto_region 3 with fail
    refine AnyOrder.region_kinds2 12 [.eq (ptr q 0), .eq (.int .i64 b.tok), .eq (c.V), .eq (.int .i64 now), .eq (ptr q 1), .eq (.int .i64 b.last), .eq (.int .i64 (now - b.last)), .eq (.int .i64 (cm c (now - b.last))), .eq (.int .i64 (b.tok + cm c (now - b.last))), .eq (ptr w.heap.size 7), .eq (.int .i64 (c.get 7)), .eq (.int .i64 n)] (fun wx => Below V.heap.size V wx) (by kernel_rfl) (by kernel_rfl) rfl (by kernel_rfl) (below_drewN (Below.refl _ _) 1) (fun p _ _ hp => by simp at hp) ?_ ?_
    · intro i o listed a1 w2 hin ho st hl hdep
      match i, ho with
      | 0, ho => (injection ho with ho; subst ho; have ec : ∀ v, a1.eval (.const v) = v := fun _ => rfl; have ef : ∀ f, a1.eval (.func f) = .func (.func f) #[] #[] := fun _ => rfl; have e0 : a1.eval (.tmp 4) = ptr q 0 := st.old hl 4 (by kernel_rfl); exact AnyOrder.step_value rfl (AnyOrder.wanted_none rfl) (ptr q 0) (by generalize a1.eval = ρ at ec ef e0 ⊢; simp [execOp, ec, ef, e0, IntWalk.i64_left, go_sem]) st.inv (Below.refl _ _) rfl)
      | 1, ho => (injection ho with ho; subst ho; have ec : ∀ v, a1.eval (.const v) = v := fun _ => rfl; have ef : ∀ f, a1.eval (.func f) = .func (.func f) #[] #[] := fun _ => rfl; have e0 : a1.eval (.tmp 12) = ptr q 0 := st.done 0 12 (hdep ⟨0, .data⟩ (by simp) rfl) rfl; exact AnyOrder.step_value rfl (AnyOrder.wanted_none rfl) (.int .i64 b.tok) (by generalize a1.eval = ρ at ec ef e0 ⊢; simp [execOp, ec, ef, e0, IntWalk.i64_left, (HT.out.step st.inv).get0, go_sem]) st.inv (Below.refl _ _) rfl)
      | 2, ho => (injection ho with ho; subst ho; have ec : ∀ v, a1.eval (.const v) = v := fun _ => rfl; have ef : ∀ f, a1.eval (.func f) = .func (.func f) #[] #[] := fun _ => rfl; have e0 : a1.eval (.tmp 3) = ptr w.heap.size 0 := st.old hl 3 (by kernel_rfl); exact AnyOrder.step_value rfl (AnyOrder.wanted_none rfl) (c.V) (run_load_cfg e0 (HC.out.step st.inv)) st.inv (Below.refl _ _) rfl)
      | 3, ho => (injection ho with ho; subst ho; have ec : ∀ v, a1.eval (.const v) = v := fun _ => rfl; have ef : ∀ f, a1.eval (.func f) = .func (.func f) #[] #[] := fun _ => rfl; have e0 : a1.eval (.tmp 2) = .int .i64 now := st.old hl 2 (by kernel_rfl); exact AnyOrder.step_value rfl (AnyOrder.wanted_none rfl) (.int .i64 now) (AnyOrder.run_move e0) st.inv (Below.refl _ _) rfl)
      | 4, ho => (injection ho with ho; subst ho; have ec : ∀ v, a1.eval (.const v) = v := fun _ => rfl; have ef : ∀ f, a1.eval (.func f) = .func (.func f) #[] #[] := fun _ => rfl; have e0 : a1.eval (.tmp 4) = ptr q 0 := st.old hl 4 (by kernel_rfl); exact AnyOrder.step_value rfl (AnyOrder.wanted_none rfl) (ptr q 1) (by generalize a1.eval = ρ at ec ef e0 ⊢; simp [execOp, ec, ef, e0, IntWalk.i64_left, go_sem]) st.inv (Below.refl _ _) rfl)
      | 5, ho => (injection ho with ho; subst ho; have ec : ∀ v, a1.eval (.const v) = v := fun _ => rfl; have ef : ∀ f, a1.eval (.func f) = .func (.func f) #[] #[] := fun _ => rfl; have e0 : a1.eval (.tmp 16) = ptr q 1 := st.done 4 16 (hdep ⟨4, .data⟩ (by simp) rfl) rfl; exact AnyOrder.step_value rfl (AnyOrder.wanted_none rfl) (.int .i64 b.last) (by generalize a1.eval = ρ at ec ef e0 ⊢; simp [execOp, ec, ef, e0, IntWalk.i64_left, (HT.out.step st.inv).get1, go_sem]) st.inv (Below.refl _ _) rfl)
      | 6, ho => (injection ho with ho; subst ho; have ec : ∀ v, a1.eval (.const v) = v := fun _ => rfl; have ef : ∀ f, a1.eval (.func f) = .func (.func f) #[] #[] := fun _ => rfl; have e0 : a1.eval (.tmp 15) = .int .i64 now := st.done 3 15 (hdep ⟨3, .data⟩ (by simp) rfl) rfl; have e1 : a1.eval (.tmp 17) = .int .i64 b.last := st.done 5 17 (hdep ⟨5, .data⟩ (by simp) rfl) rfl; exact AnyOrder.step_value rfl (AnyOrder.wanted_none rfl) (.int .i64 (now - b.last)) (by generalize a1.eval = ρ at ec ef e0 e1 ⊢; simp [execOp, ec, ef, e0, e1, IntWalk.i64_left, x1, go_sem]) st.inv (Below.refl _ _) rfl)
      | 7, ho => (injection ho with ho; subst ho; have ec : ∀ v, a1.eval (.const v) = v := fun _ => rfl; have ef : ∀ f, a1.eval (.func f) = .func (.func f) #[] #[] := fun _ => rfl; have e0 : a1.eval (.tmp 14) = c.V := st.done 2 14 (hdep ⟨2, .data⟩ (by simp) rfl) rfl; have e1 : a1.eval (.tmp 18) = .int .i64 (now - b.last) := st.done 6 18 (hdep ⟨6, .data⟩ (by simp) rfl) rfl; exact AnyOrder.step_call rfl (AnyOrder.wanted_none rfl) 20 #[c.V, .int .i64 (now - b.last)] (by generalize a1.eval = ρ at ec ef e0 e1 ⊢; simp [execOp, ec, ef, e0, e1, go_sem]) ((CC.out _).mono (fun e w3 h => by obtain ⟨rfl, hb⟩ := h; exact ⟨_, rfl, st.inv.trans (hb.mono st.inv.size), hb, rfl⟩)))
      | 8, ho => (injection ho with ho; subst ho; have ec : ∀ v, a1.eval (.const v) = v := fun _ => rfl; have ef : ∀ f, a1.eval (.func f) = .func (.func f) #[] #[] := fun _ => rfl; have e0 : a1.eval (.tmp 13) = .int .i64 b.tok := st.done 1 13 (hdep ⟨1, .data⟩ (by simp) rfl) rfl; have e1 : a1.eval (.tmp 19) = .int .i64 (cm c (now - b.last)) := st.done 7 19 (hdep ⟨7, .data⟩ (by simp) rfl) rfl; exact AnyOrder.step_value rfl (AnyOrder.wanted_none rfl) (.int .i64 (b.tok + cm c (now - b.last))) (by generalize a1.eval = ρ at ec ef e0 e1 ⊢; simp [execOp, ec, ef, e0, e1, IntWalk.i64_left, x3, go_sem]) st.inv (Below.refl _ _) rfl)
      | 9, ho => (injection ho with ho; subst ho; have ec : ∀ v, a1.eval (.const v) = v := fun _ => rfl; have ef : ∀ f, a1.eval (.func f) = .func (.func f) #[] #[] := fun _ => rfl; have e0 : a1.eval (.tmp 3) = ptr w.heap.size 0 := st.old hl 3 (by kernel_rfl); exact AnyOrder.step_value rfl (AnyOrder.wanted_none rfl) (ptr w.heap.size 7) (by generalize a1.eval = ρ at ec ef e0 ⊢; simp [execOp, ec, ef, e0, IntWalk.i64_left, go_sem]) st.inv (Below.refl _ _) rfl)
      | 10, ho => (injection ho with ho; subst ho; have ec : ∀ v, a1.eval (.const v) = v := fun _ => rfl; have ef : ∀ f, a1.eval (.func f) = .func (.func f) #[] #[] := fun _ => rfl; have e0 : a1.eval (.tmp 21) = ptr w.heap.size 7 := st.done 9 21 (hdep ⟨9, .data⟩ (by simp) rfl) rfl; exact AnyOrder.step_value rfl (AnyOrder.wanted_none rfl) (.int .i64 (c.get 7)) (by generalize a1.eval = ρ at ec ef e0 ⊢; simp [execOp, ec, ef, e0, IntWalk.i64_left, ((HC.out.step st.inv).get (k := 7) (by omega)), go_sem]) st.inv (Below.refl _ _) rfl)
      | 11, ho => (injection ho with ho; subst ho; have ec : ∀ v, a1.eval (.const v) = v := fun _ => rfl; have ef : ∀ f, a1.eval (.func f) = .func (.func f) #[] #[] := fun _ => rfl; have e0 : a1.eval (.tmp 20) = .int .i64 (b.tok + cm c (now - b.last)) := st.done 8 20 (hdep ⟨8, .data⟩ (by simp) rfl) rfl; have e1 : a1.eval (.tmp 22) = .int .i64 (c.get 7) := st.done 10 22 (hdep ⟨10, .data⟩ (by simp) rfl) rfl; exact AnyOrder.step_value rfl (AnyOrder.wanted_none rfl) (.int .i64 n) (by generalize a1.eval = ρ at ec ef e0 e1 ⊢; simp [execOp, ec, ef, e0, e1, IntWalk.i64_left, em, go_sem]) st.inv (Below.refl _ _) rfl)
      | n + 12, ho => exact absurd hin (by omega)
    · intro w2 hJ
      simp only [AnyOrder.finK, List.take_succ_cons, List.take_zero, List.drop_succ_cons, List.drop_zero, Act.put, List.setIfInBounds_toArray, List.set_cons_zero, List.set_cons_succ]
      go_wp2_with fail
      go_ret
      exact ⟨ret_int E.out.symm, HB.out.trans (hJ.mono HB.out.size)⟩
  · have hg' : (okB c b.tok b.last && tick now) = false := by simpa using hg
    rw [hg'] at CK
    have E : Hid (lev c b.tok b.last now = 0) := Lib.hid (by unfold lev; rw [hg']; simp)
    clear hg hg'
    go_enter Try.func12, Try.ntmps12
    go_upto_region 1 with fail
    obtain ⟨W, hW⟩ : ∃ W, (w.alloc (.cells c.cells 24)).alloc (.cells b.cells 26) = W := ⟨_, rfl⟩
    rw [hW] at H ⊢; clear hW
    have HC : Hid (CAt W w.heap.size c) := Lib.hid H.out.2.1
    have HT : Hid (BtAt W (w.heap.size + 1) b) := Lib.hid H.out.2.2
    have HB := Lib.hid H.out.1
    clear H
    generalize w.heap.size + 1 = q at *
    go_wp2_with (first | ((with_reducible apply wpList_load_cat (h := HC.out)); exact rfl; exact rfl; exact rfl) | ((with_reducible apply wpList_load_bt (h := HT.out)); exact rfl; exact rfl; exact rfl))
    refine (CK.out _).mono ?_
    rintro e V ⟨rfl, hb⟩
    go_wp2_with fail
    go_ret
    exact ⟨ret_int E.out.symm, HB.out.trans (hb.mono HB.out.size)⟩
end Go.Proofs.Ytepfgheliddpmaa
