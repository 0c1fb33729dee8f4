/- BucketGrows: plain, and its walk. -/
import Derived.Test.YtepfgheliddpmaaBuG
namespace Go.Proofs.Ytepfgheliddpmaa
open Go.RowKit Go.Lib
set_option linter.unusedVariables false
set_option linter.unusedSimpArgs false

theorem grows_plain {c : Cfg} {t l a m : Int} (hk : okB c t l = true) (ha : 0 ≤ a) (ha2 : a ≤ 536870912) (hm : 0 ≤ m) (hm2 : m ≤ 536870912) :
    lev c t l a ≤ lev c t l (a + m) ∧ 0 ≤ lev c t l a ∧ lev c t l (a + m) ≤ c.get 7 ∧ t ≤ lev c t l a := by
  have hk' := okB_iff.1 hk
  have hr := rate_in hk'.1
  have hB := burst_in hk'.1
  rw [lev_ok hk (tick_iff.2 ⟨ha, by omega⟩), lev_ok hk (tick_iff.2 ⟨by omega, by omega⟩)]
  have h1 := lv_ge (r := c.get 8) (B := c.get 7) (t := t) (l := l) (now := a) (by omega)
  exact ⟨lv_mono (by omega) (by omega), lv_nonneg (by omega) (by omega) hk'.2.1, lv_le _ _ _ _ _, by omega⟩
theorem grows_taken {c : Cfg} {t l a m : Int} (hk : okB c t l = true) (ha : 0 ≤ a) (ha2 : a ≤ 536870912) (hm : 0 ≤ m) (hx : 0 < lev c t l a) :
    lev c (lev c t l a - 1) (max a l) (max a l) = lev c t l a - 1 ∧ okB c (lev c t l a - 1) (max a l) = true ∧ lev c (lev c t l a - 1) (max a l) (max a l + m) ≤ lev c t l (max a l + m) := by
  have hk' := okB_iff.1 hk
  have hr := rate_in hk'.1
  have hB := burst_in hk'.1
  have hl := tick_iff.1 hk'.2.2.2
  have ea := lev_ok hk (tick_iff.2 ⟨ha, by omega⟩)
  have hle := lv_le (c.get 8) (c.get 7) t l a
  have htm : tick (max a l) = true := tick_iff.2 ⟨by omega, by omega⟩
  have hd : okB c (lev c t l a - 1) (max a l) = true := okB_iff.2 ⟨hk'.1, by omega, by omega, htm⟩
  refine ⟨?_, hd, ?_⟩
  · rw [lev_ok hd htm, lv_own (Int.le_refl _) (by omega)]
  · by_cases ht : tick (max a l + m) = true
    · rw [lev_ok hd ht, lev_ok hk ht, ea]
      exact lv_taken (by omega) (by omega) hm
    · have ht' : tick (max a l + m) = false := by simpa using ht
      rw [lev_no (.inr ht'), lev_no (.inr ht')]
      exact Int.le_refl _

set_option maxRecDepth 100000 in
set_option maxHeartbeats 4000000 in
theorem grows_any (c : Cfg) (b : Bt) (a m : Int) (w : World) : Calls Try.prog 5 #[c.V, b.V, .int .i64 a, .int .i64 m] w fun e w' => e = .returned (.bool true) ∧ Below w.heap.size w w' := by
  have H := Lib.hid (new2 w c.cells b.cells 24 26)
  have HL : Hid (w.heap.size ≤ w.heap.size + 1) := Lib.hid (by omega)
  have CK := Lib.hid (fun W => bcheck_any c b W)
  by_cases hk : okB c b.tok b.last = true
  · by_cases h0 : 0 ≤ a
    · by_cases h1 : a ≤ 536870912
      · by_cases h2 : 0 ≤ m
        · by_cases h3 : m ≤ 536870912
          · have hp := grows_plain hk h0 h1 h2 h3
            have ht := tick_iff.1 (okB_iff.1 hk).2.2.2
            have hB := (okB_iff.1 hk).2.2.1
            have hBu := burst_in (okB_iff.1 hk).1
            rw [hk] at CK
            have CL := Lib.hid (fun W => blevel_any c b a W)
            have CY := Lib.hid (fun W => blevel_any c b (a + m) W)
            have CT := Lib.hid (fun W => btake_any c b a W)
            have ew : IntKind.i64.wrap (a + m) = a + m := i64w (by omega) (by omega)
            have d0 : decide (a < 0) = false := decide_eq_false (by omega)
            have d1 : decide (a > 536870912) = false := decide_eq_false (by omega)
            have d2 : decide (m < 0) = false := decide_eq_false (by omega)
            have d3 : decide (m > 536870912) = false := decide_eq_false (by omega)
            have g1 : decide (lev c b.tok b.last (a + m) < lev c b.tok b.last a) = false := decide_eq_false (by omega)
            have g2 : decide (lev c b.tok b.last a < 0) = false := decide_eq_false (by omega)
            have g3 : decide (lev c b.tok b.last (a + m) > c.get 7) = false := decide_eq_false (by omega)
            have g4 : decide (lev c b.tok b.last a < b.tok) = false := decide_eq_false (by omega)
            have g5 : decide (lev c b.tok b.last a < min b.tok (c.get 7)) = false := decide_eq_false (by omega)
            have g6 : decide (c.get 7 < b.tok) = false := decide_eq_false (by omega)
            have g7 : min b.tok (c.get 7) = b.tok := by omega
            by_cases hx : 0 < lev c b.tok b.last a
            · have hT := grows_taken hk h0 h1 h2 hx
              have htk : tkn c b a = ⟨lev c b.tok b.last a - 1, max a b.last⟩ := if_pos hx
              rw [htk, decide_eq_true hx] at CT
              have CX := Lib.hid CL.out
              have e1 : IntKind.i64.wrap (lev c b.tok b.last a - 1) = lev c b.tok b.last a - 1 := by
                have := lev_in c b.tok b.last a
                exact i64w (by omega) (by omega)
              have C3 := Lib.hid (fun W => blevel_any c ⟨lev c b.tok b.last a - 1, max a b.last⟩ (max a b.last) W)
              have C4 := Lib.hid (fun W => bcheck_any c ⟨lev c b.tok b.last a - 1, max a b.last⟩ W)
              have C5 := Lib.hid (fun W => blevel_any c ⟨lev c b.tok b.last a - 1, max a b.last⟩ (max a b.last + m) W)
              have C6 := Lib.hid (fun W => blevel_any c b (max a b.last + m) W)
              rw [hT.1] at C3
              rw [hT.2.1] at C4
              have hz := hT.2.2
              have e2 : IntKind.i64.wrap (max a b.last + m) = max a b.last + m := i64w (by omega) (by omega)
              clear hT htk
              generalize lev c (lev c b.tok b.last a - 1) (max a b.last) (max a b.last + m) = z1 at *
              generalize lev c b.tok b.last (max a b.last + m) = z2 at *
              have dz : decide (z1 ≤ z2) = true := decide_eq_true hz
              generalize lev c b.tok b.last (a + m) = y at *
              generalize lev c b.tok b.last a = x at *
              clear hz hp hB hBu h0 h1 h2 h3 hk hx
              rcases Int.lt_trichotomy a b.last with hl | hl | hl
              · rw [show max a b.last = b.last by omega] at *
                have hl2 : ¬ b.last < a := by omega
                have hl3 : ¬ b.last ≤ a := by omega
                clear ht
                generalize hd : (⟨x - 1, b.last⟩ : Bt) = d at *
                have HDD := Lib.hid hd; clear hd
                go_enter Try.func5, Try.ntmps5
                go_upto_region 1 with fail
                obtain ⟨W, hW⟩ : ∃ W, (w.alloc (.cells c.cells 24)).alloc (.cells b.cells 26) = W := ⟨_, rfl⟩
                rw [hW] at H ⊢; clear hW
                have HS : Hid (CB w W w.heap.size (w.heap.size + 1) c b) := Lib.hid ⟨H.out.2.1, H.out.2.2, HL.out, H.out.1⟩
                clear H HL
                generalize w.heap.size + 1 = r at *
                go_wp2_with fail
                refine (awake_any _).mono ?_
                rintro e w1 ⟨rfl, hb⟩
                replace HS := Lib.hid (HS.out.step hb)
                clear hb
                go_wp2_with (first | ((with_reducible apply wpList_load_cat (h := HS.out.cf)); exact rfl; exact rfl; exact rfl) | ((with_reducible apply wpList_load_bt (h := HS.out.bt)); exact rfl; exact rfl; exact rfl))
                refine (CK.out _).mono ?_
                rintro e w2 ⟨rfl, hb⟩
                replace HS := Lib.hid (HS.out.step hb)
                clear hb CK
                go_wp2_with (first | ((with_reducible apply wpList_load_cat (h := HS.out.cf)); exact rfl; exact rfl; exact rfl) | ((with_reducible apply wpList_load_bt (h := HS.out.bt)); exact rfl; exact rfl; exact rfl))
                refine (CL.out _).mono ?_
                rintro e w3 ⟨rfl, hb⟩
                replace HS := Lib.hid (HS.out.step hb)
                clear hb CL
                go_wp2_with (first | ((with_reducible apply wpList_load_cat (h := HS.out.cf)); exact rfl; exact rfl; exact rfl) | ((with_reducible apply wpList_load_bt (h := HS.out.bt)); exact rfl; exact rfl; exact rfl))
                refine (CY.out _).mono ?_
                rintro e w4 ⟨rfl, hb⟩
                replace HS := Lib.hid (HS.out.step hb)
                clear hb CY
                have kb := HS.out.cf.get (k := 7) (by omega)
                have k0 := HS.out.bt.get0
                go_wp2_with (first | ((with_reducible apply wpList_load_cat (h := HS.out.cf)); exact rfl; exact rfl; exact rfl) | ((with_reducible apply wpList_load_bt (h := HS.out.bt)); exact rfl; exact rfl; exact rfl))
                refine (CT.out _).mono ?_
                rintro e w5 ⟨rfl, hb⟩
                replace HS := Lib.hid (HS.out.step hb)
                clear hb CT
                go_upto_region 10 with (refine wpList_store_row rfl 26 _ _ rfl _ d.cells rfl rfl 26 _ (heap_alloc_new _ _) (sizeBt _) rfl (Bt.one _) ?_; rw [World.setRow_alloc_new])
                have HD := Lib.hid (HS.out.new d).2
                replace HS := Lib.hid (HS.out.new d).1
                obtain ⟨V, hV⟩ : ∃ V, w5.alloc (.cells (Bt.cells d) 26) = V := ⟨_, rfl⟩
                rw [hV] at HD HS ⊢; clear hV
                generalize w5.heap.size = s at *
                have k1 := HS.out.bt.get1
                go_upto_region 13 with fail
                refine AnyOrder.region_kinds2 30 [.eq (c.V), .eq (d.V), .eq (.int .i64 b.last), .eq (.int .i64 (x - 1)), .eq (c.V), .eq (b.V), .eq (.int .i64 a), .eq (.int .i64 x), .eq (.int .i64 (x - 1)), .eq (.bool true), .eq (.bool true), .eq (c.V), .eq (d.V), .eq (.bool true), .eq (.bool true), .eq (.bool true), .eq (c.V), .eq (d.V), .eq (.int .i64 b.last), .eq (.int .i64 m), .eq (.int .i64 (b.last + m)), .eq (.int .i64 z1), .eq (c.V), .eq (b.V), .eq (.int .i64 b.last), .eq (.int .i64 m), .eq (.int .i64 (b.last + m)), .eq (.int .i64 z2), .eq (.bool true), .eq (.bool true)] (fun wx => Below V.heap.size V wx) (by kernel_rfl) (by kernel_rfl) rfl (by kernel_rfl) (below_drewN (Below.refl _ _) 1) (fun p _ _ hp => by simp at hp) ?_ ?_
                · intro i o listed a1 w2 hin ho st hl hdep
                  match i, ho with
                  | 0, ho => (injection ho with ho; subst ho; have ec : ∀ v, a1.eval (.const v) = v := fun _ => rfl; have ef : ∀ f, a1.eval (.func f) = .func (.func f) #[] #[] := fun _ => rfl; have e0 : a1.eval (.tmp 4) = ptr w.heap.size 0 := st.old hl 4 (by kernel_rfl); exact AnyOrder.step_value rfl (AnyOrder.wanted_none rfl) (c.V) (run_load_cfg e0 (HS.out.cf.step st.inv)) st.inv (Below.refl _ _) rfl)
                  | 1, ho => (injection ho with ho; subst ho; have ec : ∀ v, a1.eval (.const v) = v := fun _ => rfl; have ef : ∀ f, a1.eval (.func f) = .func (.func f) #[] #[] := fun _ => rfl; have e0 : a1.eval (.tmp 11) = ptr s 0 := st.old hl 11 (by kernel_rfl); exact AnyOrder.step_value rfl (AnyOrder.wanted_none rfl) (d.V) (run_load_bt e0 (HD.out.step st.inv)) st.inv (Below.refl _ _) rfl)
                  | 2, ho => (injection ho with ho; subst ho; have ec : ∀ v, a1.eval (.const v) = v := fun _ => rfl; have ef : ∀ f, a1.eval (.func f) = .func (.func f) #[] #[] := fun _ => rfl; have e0 : a1.eval (.tmp 13) = .int .i64 b.last := st.old hl 13 (by kernel_rfl); exact AnyOrder.step_value rfl (AnyOrder.wanted_none rfl) (.int .i64 b.last) (AnyOrder.run_move e0) st.inv (Below.refl _ _) rfl)
                  | 3, ho => (injection ho with ho; subst ho; have ec : ∀ v, a1.eval (.const v) = v := fun _ => rfl; have ef : ∀ f, a1.eval (.func f) = .func (.func f) #[] #[] := fun _ => rfl; have e0 : a1.eval (.tmp 88) = c.V := st.done 0 88 (hdep ⟨0, .data⟩ (by simp) rfl) rfl; have e1 : a1.eval (.tmp 89) = d.V := st.done 1 89 (hdep ⟨1, .data⟩ (by simp) rfl) rfl; have e2 : a1.eval (.tmp 90) = .int .i64 b.last := st.done 2 90 (hdep ⟨2, .data⟩ (by simp) rfl) rfl; exact AnyOrder.step_call rfl (AnyOrder.wanted_none rfl) 12 #[c.V, d.V, .int .i64 b.last] (by generalize a1.eval = ρ at ec ef e0 e1 e2 ⊢; simp [execOp, ec, ef, e0, e1, e2, go_sem]) ((C3.out _).mono (fun e w3 h => by obtain ⟨rfl, hb⟩ := h; exact ⟨_, rfl, st.inv.trans (hb.mono st.inv.size), hb, rfl⟩)))
                  | 4, ho => (injection ho with ho; subst ho; have ec : ∀ v, a1.eval (.const v) = v := fun _ => rfl; have ef : ∀ f, a1.eval (.func f) = .func (.func f) #[] #[] := fun _ => rfl; have e0 : a1.eval (.tmp 4) = ptr w.heap.size 0 := st.old hl 4 (by kernel_rfl); exact AnyOrder.step_value rfl (AnyOrder.wanted_none rfl) (c.V) (run_load_cfg e0 (HS.out.cf.step st.inv)) st.inv (Below.refl _ _) rfl)
                  | 5, ho => (injection ho with ho; subst ho; have ec : ∀ v, a1.eval (.const v) = v := fun _ => rfl; have ef : ∀ f, a1.eval (.func f) = .func (.func f) #[] #[] := fun _ => rfl; have e0 : a1.eval (.tmp 5) = ptr r 0 := st.old hl 5 (by kernel_rfl); exact AnyOrder.step_value rfl (AnyOrder.wanted_none rfl) (b.V) (run_load_bt e0 (HS.out.bt.step st.inv)) st.inv (Below.refl _ _) rfl)
                  | 6, ho => (injection ho with ho; subst ho; have ec : ∀ v, a1.eval (.const v) = v := fun _ => rfl; have ef : ∀ f, a1.eval (.func f) = .func (.func f) #[] #[] := fun _ => rfl; have e0 : a1.eval (.tmp 2) = .int .i64 a := st.old hl 2 (by kernel_rfl); exact AnyOrder.step_value rfl (AnyOrder.wanted_none rfl) (.int .i64 a) (AnyOrder.run_move e0) st.inv (Below.refl _ _) rfl)
                  | 7, ho => (injection ho with ho; subst ho; have ec : ∀ v, a1.eval (.const v) = v := fun _ => rfl; have ef : ∀ f, a1.eval (.func f) = .func (.func f) #[] #[] := fun _ => rfl; have e0 : a1.eval (.tmp 92) = c.V := st.done 4 92 (hdep ⟨4, .data⟩ (by simp) rfl) rfl; have e1 : a1.eval (.tmp 93) = b.V := st.done 5 93 (hdep ⟨5, .data⟩ (by simp) rfl) rfl; have e2 : a1.eval (.tmp 94) = .int .i64 a := st.done 6 94 (hdep ⟨6, .data⟩ (by simp) rfl) rfl; exact AnyOrder.step_call rfl (AnyOrder.wanted_none rfl) 12 #[c.V, b.V, .int .i64 a] (by generalize a1.eval = ρ at ec ef e0 e1 e2 ⊢; simp [execOp, ec, ef, e0, e1, e2, go_sem]) ((CX.out _).mono (fun e w3 h => by obtain ⟨rfl, hb⟩ := h; exact ⟨_, rfl, st.inv.trans (hb.mono st.inv.size), hb, rfl⟩)))
                  | 8, ho => (injection ho with ho; subst ho; have ec : ∀ v, a1.eval (.const v) = v := fun _ => rfl; have ef : ∀ f, a1.eval (.func f) = .func (.func f) #[] #[] := fun _ => rfl; have e0 : a1.eval (.tmp 95) = .int .i64 x := st.done 7 95 (hdep ⟨7, .data⟩ (by simp) rfl) rfl; exact AnyOrder.step_value rfl (AnyOrder.wanted_none rfl) (.int .i64 (x - 1)) (by generalize a1.eval = ρ at ec ef e0 ⊢; simp [execOp, ec, ef, e0, IntWalk.i64_left, e1, go_sem]) st.inv (Below.refl _ _) rfl)
                  | 9, ho => (injection ho with ho; subst ho; have ec : ∀ v, a1.eval (.const v) = v := fun _ => rfl; have ef : ∀ f, a1.eval (.func f) = .func (.func f) #[] #[] := fun _ => rfl; have e0 : a1.eval (.tmp 91) = .int .i64 (x - 1) := st.done 3 91 (hdep ⟨3, .data⟩ (by simp) rfl) rfl; have e1 : a1.eval (.tmp 96) = .int .i64 (x - 1) := st.done 8 96 (hdep ⟨8, .data⟩ (by simp) rfl) rfl; exact AnyOrder.step_value rfl (AnyOrder.wanted_none rfl) (.bool true) (by generalize a1.eval = ρ at ec ef e0 e1 ⊢; simp [execOp, ec, ef, e0, e1, IntWalk.i64_left, eqI, go_sem]) st.inv (Below.refl _ _) rfl)
                  | 10, ho => (injection ho with ho; subst ho; have ec : ∀ v, a1.eval (.const v) = v := fun _ => rfl; have ef : ∀ f, a1.eval (.func f) = .func (.func f) #[] #[] := fun _ => rfl; have e0 : a1.eval (.tmp 97) = .bool true := st.done 9 97 (hdep ⟨9, .data⟩ (by simp) rfl) rfl; exact AnyOrder.step_value rfl (AnyOrder.wanted_none rfl) (.bool true) (AnyOrder.run_move e0) st.inv (Below.refl _ _) rfl)
                  | 11, ho => (injection ho with ho; subst ho; have ec : ∀ v, a1.eval (.const v) = v := fun _ => rfl; have ef : ∀ f, a1.eval (.func f) = .func (.func f) #[] #[] := fun _ => rfl; have e0 : a1.eval (.tmp 4) = ptr w.heap.size 0 := st.old hl 4 (by kernel_rfl); have eg : a1.eval (.tmp 98) = .bool true := st.done 10 98 (hdep ⟨10, .guard⟩ (by simp) rfl) rfl; exact AnyOrder.step_value rfl ((AnyOrder.wanted_of rfl rfl eg).trans rfl) (c.V) (run_load_cfg e0 (HS.out.cf.step st.inv)) st.inv (Below.refl _ _) rfl)
                  | 12, ho => (injection ho with ho; subst ho; have ec : ∀ v, a1.eval (.const v) = v := fun _ => rfl; have ef : ∀ f, a1.eval (.func f) = .func (.func f) #[] #[] := fun _ => rfl; have e0 : a1.eval (.tmp 11) = ptr s 0 := st.old hl 11 (by kernel_rfl); have eg : a1.eval (.tmp 98) = .bool true := st.done 10 98 (hdep ⟨10, .guard⟩ (by simp) rfl) rfl; exact AnyOrder.step_value rfl ((AnyOrder.wanted_of rfl rfl eg).trans rfl) (d.V) (run_load_bt e0 (HD.out.step st.inv)) st.inv (Below.refl _ _) rfl)
                  | 13, ho => (injection ho with ho; subst ho; have ec : ∀ v, a1.eval (.const v) = v := fun _ => rfl; have ef : ∀ f, a1.eval (.func f) = .func (.func f) #[] #[] := fun _ => rfl; have e0 : a1.eval (.tmp 99) = c.V := st.done 11 99 (hdep ⟨11, .data⟩ (by simp) rfl) rfl; have e1 : a1.eval (.tmp 100) = d.V := st.done 12 100 (hdep ⟨12, .data⟩ (by simp) rfl) rfl; have eg : a1.eval (.tmp 98) = .bool true := st.done 10 98 (hdep ⟨10, .chain⟩ (by simp) rfl) rfl; exact AnyOrder.step_call rfl ((AnyOrder.wanted_of rfl rfl eg).trans rfl) 8 #[c.V, d.V] (by generalize a1.eval = ρ at ec ef e0 e1 ⊢; simp [execOp, ec, ef, e0, e1, go_sem]) ((C4.out _).mono (fun e w3 h => by obtain ⟨rfl, hb⟩ := h; exact ⟨_, rfl, st.inv.trans (hb.mono st.inv.size), hb, rfl⟩)))
                  | 14, ho => (injection ho with ho; subst ho; have ec : ∀ v, a1.eval (.const v) = v := fun _ => rfl; have ef : ∀ f, a1.eval (.func f) = .func (.func f) #[] #[] := fun _ => rfl; have e0 : a1.eval (.tmp 98) = .bool true := st.done 10 98 (hdep ⟨10, .data⟩ (by simp) rfl) rfl; have e1 : a1.eval (.tmp 101) = .bool true := st.done 13 101 (hdep ⟨13, .data⟩ (by simp) rfl) rfl; exact AnyOrder.step_value rfl (AnyOrder.wanted_none rfl) (.bool true) (by generalize a1.eval = ρ at ec ef e0 e1 ⊢; simp [execOp, ec, ef, e0, e1, IntWalk.i64_left, go_sem]) st.inv (Below.refl _ _) rfl)
                  | 15, ho => (injection ho with ho; subst ho; have ec : ∀ v, a1.eval (.const v) = v := fun _ => rfl; have ef : ∀ f, a1.eval (.func f) = .func (.func f) #[] #[] := fun _ => rfl; have e0 : a1.eval (.tmp 102) = .bool true := st.done 14 102 (hdep ⟨14, .data⟩ (by simp) rfl) rfl; exact AnyOrder.step_value rfl (AnyOrder.wanted_none rfl) (.bool true) (AnyOrder.run_move e0) st.inv (Below.refl _ _) rfl)
                  | 16, ho => (injection ho with ho; subst ho; have ec : ∀ v, a1.eval (.const v) = v := fun _ => rfl; have ef : ∀ f, a1.eval (.func f) = .func (.func f) #[] #[] := fun _ => rfl; have e0 : a1.eval (.tmp 4) = ptr w.heap.size 0 := st.old hl 4 (by kernel_rfl); have eg : a1.eval (.tmp 103) = .bool true := st.done 15 103 (hdep ⟨15, .guard⟩ (by simp) rfl) rfl; exact AnyOrder.step_value rfl ((AnyOrder.wanted_of rfl rfl eg).trans rfl) (c.V) (run_load_cfg e0 (HS.out.cf.step st.inv)) st.inv (Below.refl _ _) rfl)
                  | 17, ho => (injection ho with ho; subst ho; have ec : ∀ v, a1.eval (.const v) = v := fun _ => rfl; have ef : ∀ f, a1.eval (.func f) = .func (.func f) #[] #[] := fun _ => rfl; have e0 : a1.eval (.tmp 11) = ptr s 0 := st.old hl 11 (by kernel_rfl); have eg : a1.eval (.tmp 103) = .bool true := st.done 15 103 (hdep ⟨15, .guard⟩ (by simp) rfl) rfl; exact AnyOrder.step_value rfl ((AnyOrder.wanted_of rfl rfl eg).trans rfl) (d.V) (run_load_bt e0 (HD.out.step st.inv)) st.inv (Below.refl _ _) rfl)
                  | 18, ho => (injection ho with ho; subst ho; have ec : ∀ v, a1.eval (.const v) = v := fun _ => rfl; have ef : ∀ f, a1.eval (.func f) = .func (.func f) #[] #[] := fun _ => rfl; have e0 : a1.eval (.tmp 13) = .int .i64 b.last := st.old hl 13 (by kernel_rfl); have eg : a1.eval (.tmp 103) = .bool true := st.done 15 103 (hdep ⟨15, .guard⟩ (by simp) rfl) rfl; exact AnyOrder.step_value rfl ((AnyOrder.wanted_of rfl rfl eg).trans rfl) (.int .i64 b.last) (AnyOrder.run_move e0) st.inv (Below.refl _ _) rfl)
                  | 19, ho => (injection ho with ho; subst ho; have ec : ∀ v, a1.eval (.const v) = v := fun _ => rfl; have ef : ∀ f, a1.eval (.func f) = .func (.func f) #[] #[] := fun _ => rfl; have e0 : a1.eval (.tmp 3) = .int .i64 m := st.old hl 3 (by kernel_rfl); have eg : a1.eval (.tmp 103) = .bool true := st.done 15 103 (hdep ⟨15, .guard⟩ (by simp) rfl) rfl; exact AnyOrder.step_value rfl ((AnyOrder.wanted_of rfl rfl eg).trans rfl) (.int .i64 m) (AnyOrder.run_move e0) st.inv (Below.refl _ _) rfl)
                  | 20, ho => (injection ho with ho; subst ho; have ec : ∀ v, a1.eval (.const v) = v := fun _ => rfl; have ef : ∀ f, a1.eval (.func f) = .func (.func f) #[] #[] := fun _ => rfl; have e0 : a1.eval (.tmp 106) = .int .i64 b.last := st.done 18 106 (hdep ⟨18, .data⟩ (by simp) rfl) rfl; have e1 : a1.eval (.tmp 107) = .int .i64 m := st.done 19 107 (hdep ⟨19, .data⟩ (by simp) rfl) rfl; have eg : a1.eval (.tmp 103) = .bool true := st.done 15 103 (hdep ⟨15, .guard⟩ (by simp) rfl) rfl; exact AnyOrder.step_value rfl ((AnyOrder.wanted_of rfl rfl eg).trans rfl) (.int .i64 (b.last + m)) (by generalize a1.eval = ρ at ec ef e0 e1 ⊢; simp [execOp, ec, ef, e0, e1, IntWalk.i64_left, e2, go_sem]) st.inv (Below.refl _ _) rfl)
                  | 21, ho => (injection ho with ho; subst ho; have ec : ∀ v, a1.eval (.const v) = v := fun _ => rfl; have ef : ∀ f, a1.eval (.func f) = .func (.func f) #[] #[] := fun _ => rfl; have e0 : a1.eval (.tmp 104) = c.V := st.done 16 104 (hdep ⟨16, .data⟩ (by simp) rfl) rfl; have e1 : a1.eval (.tmp 105) = d.V := st.done 17 105 (hdep ⟨17, .data⟩ (by simp) rfl) rfl; have e2 : a1.eval (.tmp 108) = .int .i64 (b.last + m) := st.done 20 108 (hdep ⟨20, .data⟩ (by simp) rfl) rfl; have eg : a1.eval (.tmp 103) = .bool true := st.done 15 103 (hdep ⟨15, .chain⟩ (by simp) rfl) rfl; exact AnyOrder.step_call rfl ((AnyOrder.wanted_of rfl rfl eg).trans rfl) 12 #[c.V, d.V, .int .i64 (b.last + m)] (by generalize a1.eval = ρ at ec ef e0 e1 e2 ⊢; simp [execOp, ec, ef, e0, e1, e2, go_sem]) ((C5.out _).mono (fun e w3 h => by obtain ⟨rfl, hb⟩ := h; exact ⟨_, rfl, st.inv.trans (hb.mono st.inv.size), hb, rfl⟩)))
                  | 22, ho => (injection ho with ho; subst ho; have ec : ∀ v, a1.eval (.const v) = v := fun _ => rfl; have ef : ∀ f, a1.eval (.func f) = .func (.func f) #[] #[] := fun _ => rfl; have e0 : a1.eval (.tmp 4) = ptr w.heap.size 0 := st.old hl 4 (by kernel_rfl); have eg : a1.eval (.tmp 103) = .bool true := st.done 15 103 (hdep ⟨15, .guard⟩ (by simp) rfl) rfl; exact AnyOrder.step_value rfl ((AnyOrder.wanted_of rfl rfl eg).trans rfl) (c.V) (run_load_cfg e0 (HS.out.cf.step st.inv)) st.inv (Below.refl _ _) rfl)
                  | 23, ho => (injection ho with ho; subst ho; have ec : ∀ v, a1.eval (.const v) = v := fun _ => rfl; have ef : ∀ f, a1.eval (.func f) = .func (.func f) #[] #[] := fun _ => rfl; have e0 : a1.eval (.tmp 5) = ptr r 0 := st.old hl 5 (by kernel_rfl); have eg : a1.eval (.tmp 103) = .bool true := st.done 15 103 (hdep ⟨15, .guard⟩ (by simp) rfl) rfl; exact AnyOrder.step_value rfl ((AnyOrder.wanted_of rfl rfl eg).trans rfl) (b.V) (run_load_bt e0 (HS.out.bt.step st.inv)) st.inv (Below.refl _ _) rfl)
                  | 24, ho => (injection ho with ho; subst ho; have ec : ∀ v, a1.eval (.const v) = v := fun _ => rfl; have ef : ∀ f, a1.eval (.func f) = .func (.func f) #[] #[] := fun _ => rfl; have e0 : a1.eval (.tmp 13) = .int .i64 b.last := st.old hl 13 (by kernel_rfl); have eg : a1.eval (.tmp 103) = .bool true := st.done 15 103 (hdep ⟨15, .guard⟩ (by simp) rfl) rfl; exact AnyOrder.step_value rfl ((AnyOrder.wanted_of rfl rfl eg).trans rfl) (.int .i64 b.last) (AnyOrder.run_move e0) st.inv (Below.refl _ _) rfl)
                  | 25, ho => (injection ho with ho; subst ho; have ec : ∀ v, a1.eval (.const v) = v := fun _ => rfl; have ef : ∀ f, a1.eval (.func f) = .func (.func f) #[] #[] := fun _ => rfl; have e0 : a1.eval (.tmp 3) = .int .i64 m := st.old hl 3 (by kernel_rfl); have eg : a1.eval (.tmp 103) = .bool true := st.done 15 103 (hdep ⟨15, .guard⟩ (by simp) rfl) rfl; exact AnyOrder.step_value rfl ((AnyOrder.wanted_of rfl rfl eg).trans rfl) (.int .i64 m) (AnyOrder.run_move e0) st.inv (Below.refl _ _) rfl)
                  | 26, ho => (injection ho with ho; subst ho; have ec : ∀ v, a1.eval (.const v) = v := fun _ => rfl; have ef : ∀ f, a1.eval (.func f) = .func (.func f) #[] #[] := fun _ => rfl; have e0 : a1.eval (.tmp 112) = .int .i64 b.last := st.done 24 112 (hdep ⟨24, .data⟩ (by simp) rfl) rfl; have e1 : a1.eval (.tmp 113) = .int .i64 m := st.done 25 113 (hdep ⟨25, .data⟩ (by simp) rfl) rfl; have eg : a1.eval (.tmp 103) = .bool true := st.done 15 103 (hdep ⟨15, .guard⟩ (by simp) rfl) rfl; exact AnyOrder.step_value rfl ((AnyOrder.wanted_of rfl rfl eg).trans rfl) (.int .i64 (b.last + m)) (by generalize a1.eval = ρ at ec ef e0 e1 ⊢; simp [execOp, ec, ef, e0, e1, IntWalk.i64_left, e2, go_sem]) st.inv (Below.refl _ _) rfl)
                  | 27, ho => (injection ho with ho; subst ho; have ec : ∀ v, a1.eval (.const v) = v := fun _ => rfl; have ef : ∀ f, a1.eval (.func f) = .func (.func f) #[] #[] := fun _ => rfl; have e0 : a1.eval (.tmp 110) = c.V := st.done 22 110 (hdep ⟨22, .data⟩ (by simp) rfl) rfl; have e1 : a1.eval (.tmp 111) = b.V := st.done 23 111 (hdep ⟨23, .data⟩ (by simp) rfl) rfl; have e2 : a1.eval (.tmp 114) = .int .i64 (b.last + m) := st.done 26 114 (hdep ⟨26, .data⟩ (by simp) rfl) rfl; have eg : a1.eval (.tmp 103) = .bool true := st.done 15 103 (hdep ⟨15, .guard⟩ (by simp) rfl) rfl; exact AnyOrder.step_call rfl ((AnyOrder.wanted_of rfl rfl eg).trans rfl) 12 #[c.V, b.V, .int .i64 (b.last + m)] (by generalize a1.eval = ρ at ec ef e0 e1 e2 ⊢; simp [execOp, ec, ef, e0, e1, e2, go_sem]) ((C6.out _).mono (fun e w3 h => by obtain ⟨rfl, hb⟩ := h; exact ⟨_, rfl, st.inv.trans (hb.mono st.inv.size), hb, rfl⟩)))
                  | 28, ho => (injection ho with ho; subst ho; have ec : ∀ v, a1.eval (.const v) = v := fun _ => rfl; have ef : ∀ f, a1.eval (.func f) = .func (.func f) #[] #[] := fun _ => rfl; have e0 : a1.eval (.tmp 109) = .int .i64 z1 := st.done 21 109 (hdep ⟨21, .data⟩ (by simp) rfl) rfl; have e1 : a1.eval (.tmp 115) = .int .i64 z2 := st.done 27 115 (hdep ⟨27, .data⟩ (by simp) rfl) rfl; have eg : a1.eval (.tmp 103) = .bool true := st.done 15 103 (hdep ⟨15, .guard⟩ (by simp) rfl) rfl; exact AnyOrder.step_value rfl ((AnyOrder.wanted_of rfl rfl eg).trans rfl) (.bool true) (by generalize a1.eval = ρ at ec ef e0 e1 ⊢; simp [execOp, ec, ef, e0, e1, IntWalk.i64_left, dz, go_sem]) st.inv (Below.refl _ _) rfl)
                  | 29, ho => (injection ho with ho; subst ho; have ec : ∀ v, a1.eval (.const v) = v := fun _ => rfl; have ef : ∀ f, a1.eval (.func f) = .func (.func f) #[] #[] := fun _ => rfl; have e0 : a1.eval (.tmp 103) = .bool true := st.done 15 103 (hdep ⟨15, .data⟩ (by simp) rfl) rfl; have e1 : a1.eval (.tmp 116) = .bool true := st.done 28 116 (hdep ⟨28, .data⟩ (by simp) rfl) rfl; exact AnyOrder.step_value rfl (AnyOrder.wanted_none rfl) (.bool true) (by generalize a1.eval = ρ at ec ef e0 e1 ⊢; simp [execOp, ec, ef, e0, e1, IntWalk.i64_left, go_sem]) st.inv (Below.refl _ _) rfl)
                  | n + 30, ho => exact absurd hin (by omega)
                · intro w2 hJ
                  simp only [AnyOrder.finK, List.take_succ_cons, List.take_zero, List.drop_succ_cons, List.drop_zero, Act.put, List.setIfInBounds_toArray, List.set_cons_zero, List.set_cons_succ]
                  go_wp2_with fail
                  go_ret
                  exact ⟨rfl, (HS.out.step hJ).bel⟩
              · rw [show max a b.last = a by omega] at *
                have HN := Lib.hid hl
                clear ht hl
                generalize hd : (⟨x - 1, a⟩ : Bt) = d at *
                have HDD := Lib.hid hd; clear hd
                go_enter Try.func5, Try.ntmps5
                go_upto_region 1 with fail
                obtain ⟨W, hW⟩ : ∃ W, (w.alloc (.cells c.cells 24)).alloc (.cells b.cells 26) = W := ⟨_, rfl⟩
                rw [hW] at H ⊢; clear hW
                have HS : Hid (CB w W w.heap.size (w.heap.size + 1) c b) := Lib.hid ⟨H.out.2.1, H.out.2.2, HL.out, H.out.1⟩
                clear H HL
                generalize w.heap.size + 1 = r at *
                go_wp2_with fail
                refine (awake_any _).mono ?_
                rintro e w1 ⟨rfl, hb⟩
                replace HS := Lib.hid (HS.out.step hb)
                clear hb
                go_wp2_with (first | ((with_reducible apply wpList_load_cat (h := HS.out.cf)); exact rfl; exact rfl; exact rfl) | ((with_reducible apply wpList_load_bt (h := HS.out.bt)); exact rfl; exact rfl; exact rfl))
                refine (CK.out _).mono ?_
                rintro e w2 ⟨rfl, hb⟩
                replace HS := Lib.hid (HS.out.step hb)
                clear hb CK
                go_wp2_with (first | ((with_reducible apply wpList_load_cat (h := HS.out.cf)); exact rfl; exact rfl; exact rfl) | ((with_reducible apply wpList_load_bt (h := HS.out.bt)); exact rfl; exact rfl; exact rfl))
                refine (CL.out _).mono ?_
                rintro e w3 ⟨rfl, hb⟩
                replace HS := Lib.hid (HS.out.step hb)
                clear hb CL
                go_wp2_with (first | ((with_reducible apply wpList_load_cat (h := HS.out.cf)); exact rfl; exact rfl; exact rfl) | ((with_reducible apply wpList_load_bt (h := HS.out.bt)); exact rfl; exact rfl; exact rfl))
                refine (CY.out _).mono ?_
                rintro e w4 ⟨rfl, hb⟩
                replace HS := Lib.hid (HS.out.step hb)
                clear hb CY
                have kb := HS.out.cf.get (k := 7) (by omega)
                have k0 := HS.out.bt.get0
                go_wp2_with (first | ((with_reducible apply wpList_load_cat (h := HS.out.cf)); exact rfl; exact rfl; exact rfl) | ((with_reducible apply wpList_load_bt (h := HS.out.bt)); exact rfl; exact rfl; exact rfl))
                refine (CT.out _).mono ?_
                rintro e w5 ⟨rfl, hb⟩
                replace HS := Lib.hid (HS.out.step hb)
                clear hb CT
                go_upto_region 10 with (refine wpList_store_row rfl 26 _ _ rfl _ d.cells rfl rfl 26 _ (heap_alloc_new _ _) (sizeBt _) rfl (Bt.one _) ?_; rw [World.setRow_alloc_new])
                have HD := Lib.hid (HS.out.new d).2
                replace HS := Lib.hid (HS.out.new d).1
                obtain ⟨V, hV⟩ : ∃ V, w5.alloc (.cells (Bt.cells d) 26) = V := ⟨_, rfl⟩
                rw [hV] at HD HS ⊢; clear hV
                generalize w5.heap.size = s at *
                have k1 := HS.out.bt.get1
                rw [← HN.out] at k1
                go_upto_region 13 with fail
                refine AnyOrder.region_kinds2 30 [.eq (c.V), .eq (d.V), .eq (.int .i64 a), .eq (.int .i64 (x - 1)), .eq (c.V), .eq (b.V), .eq (.int .i64 a), .eq (.int .i64 x), .eq (.int .i64 (x - 1)), .eq (.bool true), .eq (.bool true), .eq (c.V), .eq (d.V), .eq (.bool true), .eq (.bool true), .eq (.bool true), .eq (c.V), .eq (d.V), .eq (.int .i64 a), .eq (.int .i64 m), .eq (.int .i64 (a + m)), .eq (.int .i64 z1), .eq (c.V), .eq (b.V), .eq (.int .i64 a), .eq (.int .i64 m), .eq (.int .i64 (a + m)), .eq (.int .i64 z2), .eq (.bool true), .eq (.bool true)] (fun wx => Below V.heap.size V wx) (by kernel_rfl) (by kernel_rfl) rfl (by kernel_rfl) (below_drewN (Below.refl _ _) 1) (fun p _ _ hp => by simp at hp) ?_ ?_
                · intro i o listed a1 w2 hin ho st hl hdep
                  match i, ho with
                  | 0, ho => (injection ho with ho; subst ho; have ec : ∀ v, a1.eval (.const v) = v := fun _ => rfl; have ef : ∀ f, a1.eval (.func f) = .func (.func f) #[] #[] := fun _ => rfl; have e0 : a1.eval (.tmp 4) = ptr w.heap.size 0 := st.old hl 4 (by kernel_rfl); exact AnyOrder.step_value rfl (AnyOrder.wanted_none rfl) (c.V) (run_load_cfg e0 (HS.out.cf.step st.inv)) st.inv (Below.refl _ _) rfl)
                  | 1, ho => (injection ho with ho; subst ho; have ec : ∀ v, a1.eval (.const v) = v := fun _ => rfl; have ef : ∀ f, a1.eval (.func f) = .func (.func f) #[] #[] := fun _ => rfl; have e0 : a1.eval (.tmp 11) = ptr s 0 := st.old hl 11 (by kernel_rfl); exact AnyOrder.step_value rfl (AnyOrder.wanted_none rfl) (d.V) (run_load_bt e0 (HD.out.step st.inv)) st.inv (Below.refl _ _) rfl)
                  | 2, ho => (injection ho with ho; subst ho; have ec : ∀ v, a1.eval (.const v) = v := fun _ => rfl; have ef : ∀ f, a1.eval (.func f) = .func (.func f) #[] #[] := fun _ => rfl; have e0 : a1.eval (.tmp 13) = .int .i64 a := st.old hl 13 (by kernel_rfl); exact AnyOrder.step_value rfl (AnyOrder.wanted_none rfl) (.int .i64 a) (AnyOrder.run_move e0) st.inv (Below.refl _ _) rfl)
                  | 3, ho => (injection ho with ho; subst ho; have ec : ∀ v, a1.eval (.const v) = v := fun _ => rfl; have ef : ∀ f, a1.eval (.func f) = .func (.func f) #[] #[] := fun _ => rfl; have e0 : a1.eval (.tmp 88) = c.V := st.done 0 88 (hdep ⟨0, .data⟩ (by simp) rfl) rfl; have e1 : a1.eval (.tmp 89) = d.V := st.done 1 89 (hdep ⟨1, .data⟩ (by simp) rfl) rfl; have e2 : a1.eval (.tmp 90) = .int .i64 a := st.done 2 90 (hdep ⟨2, .data⟩ (by simp) rfl) rfl; exact AnyOrder.step_call rfl (AnyOrder.wanted_none rfl) 12 #[c.V, d.V, .int .i64 a] (by generalize a1.eval = ρ at ec ef e0 e1 e2 ⊢; simp [execOp, ec, ef, e0, e1, e2, go_sem]) ((C3.out _).mono (fun e w3 h => by obtain ⟨rfl, hb⟩ := h; exact ⟨_, rfl, st.inv.trans (hb.mono st.inv.size), hb, rfl⟩)))
                  | 4, ho => (injection ho with ho; subst ho; have ec : ∀ v, a1.eval (.const v) = v := fun _ => rfl; have ef : ∀ f, a1.eval (.func f) = .func (.func f) #[] #[] := fun _ => rfl; have e0 : a1.eval (.tmp 4) = ptr w.heap.size 0 := st.old hl 4 (by kernel_rfl); exact AnyOrder.step_value rfl (AnyOrder.wanted_none rfl) (c.V) (run_load_cfg e0 (HS.out.cf.step st.inv)) st.inv (Below.refl _ _) rfl)
                  | 5, ho => (injection ho with ho; subst ho; have ec : ∀ v, a1.eval (.const v) = v := fun _ => rfl; have ef : ∀ f, a1.eval (.func f) = .func (.func f) #[] #[] := fun _ => rfl; have e0 : a1.eval (.tmp 5) = ptr r 0 := st.old hl 5 (by kernel_rfl); exact AnyOrder.step_value rfl (AnyOrder.wanted_none rfl) (b.V) (run_load_bt e0 (HS.out.bt.step st.inv)) st.inv (Below.refl _ _) rfl)
                  | 6, ho => (injection ho with ho; subst ho; have ec : ∀ v, a1.eval (.const v) = v := fun _ => rfl; have ef : ∀ f, a1.eval (.func f) = .func (.func f) #[] #[] := fun _ => rfl; have e0 : a1.eval (.tmp 2) = .int .i64 a := st.old hl 2 (by kernel_rfl); exact AnyOrder.step_value rfl (AnyOrder.wanted_none rfl) (.int .i64 a) (AnyOrder.run_move e0) st.inv (Below.refl _ _) rfl)
                  | 7, ho => (injection ho with ho; subst ho; have ec : ∀ v, a1.eval (.const v) = v := fun _ => rfl; have ef : ∀ f, a1.eval (.func f) = .func (.func f) #[] #[] := fun _ => rfl; have e0 : a1.eval (.tmp 92) = c.V := st.done 4 92 (hdep ⟨4, .data⟩ (by simp) rfl) rfl; have e1 : a1.eval (.tmp 93) = b.V := st.done 5 93 (hdep ⟨5, .data⟩ (by simp) rfl) rfl; have e2 : a1.eval (.tmp 94) = .int .i64 a := st.done 6 94 (hdep ⟨6, .data⟩ (by simp) rfl) rfl; exact AnyOrder.step_call rfl (AnyOrder.wanted_none rfl) 12 #[c.V, b.V, .int .i64 a] (by generalize a1.eval = ρ at ec ef e0 e1 e2 ⊢; simp [execOp, ec, ef, e0, e1, e2, go_sem]) ((CX.out _).mono (fun e w3 h => by obtain ⟨rfl, hb⟩ := h; exact ⟨_, rfl, st.inv.trans (hb.mono st.inv.size), hb, rfl⟩)))
                  | 8, ho => (injection ho with ho; subst ho; have ec : ∀ v, a1.eval (.const v) = v := fun _ => rfl; have ef : ∀ f, a1.eval (.func f) = .func (.func f) #[] #[] := fun _ => rfl; have e0 : a1.eval (.tmp 95) = .int .i64 x := st.done 7 95 (hdep ⟨7, .data⟩ (by simp) rfl) rfl; exact AnyOrder.step_value rfl (AnyOrder.wanted_none rfl) (.int .i64 (x - 1)) (by generalize a1.eval = ρ at ec ef e0 ⊢; simp [execOp, ec, ef, e0, IntWalk.i64_left, e1, go_sem]) st.inv (Below.refl _ _) rfl)
                  | 9, ho => (injection ho with ho; subst ho; have ec : ∀ v, a1.eval (.const v) = v := fun _ => rfl; have ef : ∀ f, a1.eval (.func f) = .func (.func f) #[] #[] := fun _ => rfl; have e0 : a1.eval (.tmp 91) = .int .i64 (x - 1) := st.done 3 91 (hdep ⟨3, .data⟩ (by simp) rfl) rfl; have e1 : a1.eval (.tmp 96) = .int .i64 (x - 1) := st.done 8 96 (hdep ⟨8, .data⟩ (by simp) rfl) rfl; exact AnyOrder.step_value rfl (AnyOrder.wanted_none rfl) (.bool true) (by generalize a1.eval = ρ at ec ef e0 e1 ⊢; simp [execOp, ec, ef, e0, e1, IntWalk.i64_left, eqI, go_sem]) st.inv (Below.refl _ _) rfl)
                  | 10, ho => (injection ho with ho; subst ho; have ec : ∀ v, a1.eval (.const v) = v := fun _ => rfl; have ef : ∀ f, a1.eval (.func f) = .func (.func f) #[] #[] := fun _ => rfl; have e0 : a1.eval (.tmp 97) = .bool true := st.done 9 97 (hdep ⟨9, .data⟩ (by simp) rfl) rfl; exact AnyOrder.step_value rfl (AnyOrder.wanted_none rfl) (.bool true) (AnyOrder.run_move e0) st.inv (Below.refl _ _) rfl)
                  | 11, ho => (injection ho with ho; subst ho; have ec : ∀ v, a1.eval (.const v) = v := fun _ => rfl; have ef : ∀ f, a1.eval (.func f) = .func (.func f) #[] #[] := fun _ => rfl; have e0 : a1.eval (.tmp 4) = ptr w.heap.size 0 := st.old hl 4 (by kernel_rfl); have eg : a1.eval (.tmp 98) = .bool true := st.done 10 98 (hdep ⟨10, .guard⟩ (by simp) rfl) rfl; exact AnyOrder.step_value rfl ((AnyOrder.wanted_of rfl rfl eg).trans rfl) (c.V) (run_load_cfg e0 (HS.out.cf.step st.inv)) st.inv (Below.refl _ _) rfl)
                  | 12, ho => (injection ho with ho; subst ho; have ec : ∀ v, a1.eval (.const v) = v := fun _ => rfl; have ef : ∀ f, a1.eval (.func f) = .func (.func f) #[] #[] := fun _ => rfl; have e0 : a1.eval (.tmp 11) = ptr s 0 := st.old hl 11 (by kernel_rfl); have eg : a1.eval (.tmp 98) = .bool true := st.done 10 98 (hdep ⟨10, .guard⟩ (by simp) rfl) rfl; exact AnyOrder.step_value rfl ((AnyOrder.wanted_of rfl rfl eg).trans rfl) (d.V) (run_load_bt e0 (HD.out.step st.inv)) st.inv (Below.refl _ _) rfl)
                  | 13, ho => (injection ho with ho; subst ho; have ec : ∀ v, a1.eval (.const v) = v := fun _ => rfl; have ef : ∀ f, a1.eval (.func f) = .func (.func f) #[] #[] := fun _ => rfl; have e0 : a1.eval (.tmp 99) = c.V := st.done 11 99 (hdep ⟨11, .data⟩ (by simp) rfl) rfl; have e1 : a1.eval (.tmp 100) = d.V := st.done 12 100 (hdep ⟨12, .data⟩ (by simp) rfl) rfl; have eg : a1.eval (.tmp 98) = .bool true := st.done 10 98 (hdep ⟨10, .chain⟩ (by simp) rfl) rfl; exact AnyOrder.step_call rfl ((AnyOrder.wanted_of rfl rfl eg).trans rfl) 8 #[c.V, d.V] (by generalize a1.eval = ρ at ec ef e0 e1 ⊢; simp [execOp, ec, ef, e0, e1, go_sem]) ((C4.out _).mono (fun e w3 h => by obtain ⟨rfl, hb⟩ := h; exact ⟨_, rfl, st.inv.trans (hb.mono st.inv.size), hb, rfl⟩)))
                  | 14, ho => (injection ho with ho; subst ho; have ec : ∀ v, a1.eval (.const v) = v := fun _ => rfl; have ef : ∀ f, a1.eval (.func f) = .func (.func f) #[] #[] := fun _ => rfl; have e0 : a1.eval (.tmp 98) = .bool true := st.done 10 98 (hdep ⟨10, .data⟩ (by simp) rfl) rfl; have e1 : a1.eval (.tmp 101) = .bool true := st.done 13 101 (hdep ⟨13, .data⟩ (by simp) rfl) rfl; exact AnyOrder.step_value rfl (AnyOrder.wanted_none rfl) (.bool true) (by generalize a1.eval = ρ at ec ef e0 e1 ⊢; simp [execOp, ec, ef, e0, e1, IntWalk.i64_left, go_sem]) st.inv (Below.refl _ _) rfl)
                  | 15, ho => (injection ho with ho; subst ho; have ec : ∀ v, a1.eval (.const v) = v := fun _ => rfl; have ef : ∀ f, a1.eval (.func f) = .func (.func f) #[] #[] := fun _ => rfl; have e0 : a1.eval (.tmp 102) = .bool true := st.done 14 102 (hdep ⟨14, .data⟩ (by simp) rfl) rfl; exact AnyOrder.step_value rfl (AnyOrder.wanted_none rfl) (.bool true) (AnyOrder.run_move e0) st.inv (Below.refl _ _) rfl)
                  | 16, ho => (injection ho with ho; subst ho; have ec : ∀ v, a1.eval (.const v) = v := fun _ => rfl; have ef : ∀ f, a1.eval (.func f) = .func (.func f) #[] #[] := fun _ => rfl; have e0 : a1.eval (.tmp 4) = ptr w.heap.size 0 := st.old hl 4 (by kernel_rfl); have eg : a1.eval (.tmp 103) = .bool true := st.done 15 103 (hdep ⟨15, .guard⟩ (by simp) rfl) rfl; exact AnyOrder.step_value rfl ((AnyOrder.wanted_of rfl rfl eg).trans rfl) (c.V) (run_load_cfg e0 (HS.out.cf.step st.inv)) st.inv (Below.refl _ _) rfl)
                  | 17, ho => (injection ho with ho; subst ho; have ec : ∀ v, a1.eval (.const v) = v := fun _ => rfl; have ef : ∀ f, a1.eval (.func f) = .func (.func f) #[] #[] := fun _ => rfl; have e0 : a1.eval (.tmp 11) = ptr s 0 := st.old hl 11 (by kernel_rfl); have eg : a1.eval (.tmp 103) = .bool true := st.done 15 103 (hdep ⟨15, .guard⟩ (by simp) rfl) rfl; exact AnyOrder.step_value rfl ((AnyOrder.wanted_of rfl rfl eg).trans rfl) (d.V) (run_load_bt e0 (HD.out.step st.inv)) st.inv (Below.refl _ _) rfl)
                  | 18, ho => (injection ho with ho; subst ho; have ec : ∀ v, a1.eval (.const v) = v := fun _ => rfl; have ef : ∀ f, a1.eval (.func f) = .func (.func f) #[] #[] := fun _ => rfl; have e0 : a1.eval (.tmp 13) = .int .i64 a := st.old hl 13 (by kernel_rfl); have eg : a1.eval (.tmp 103) = .bool true := st.done 15 103 (hdep ⟨15, .guard⟩ (by simp) rfl) rfl; exact AnyOrder.step_value rfl ((AnyOrder.wanted_of rfl rfl eg).trans rfl) (.int .i64 a) (AnyOrder.run_move e0) st.inv (Below.refl _ _) rfl)
                  | 19, ho => (injection ho with ho; subst ho; have ec : ∀ v, a1.eval (.const v) = v := fun _ => rfl; have ef : ∀ f, a1.eval (.func f) = .func (.func f) #[] #[] := fun _ => rfl; have e0 : a1.eval (.tmp 3) = .int .i64 m := st.old hl 3 (by kernel_rfl); have eg : a1.eval (.tmp 103) = .bool true := st.done 15 103 (hdep ⟨15, .guard⟩ (by simp) rfl) rfl; exact AnyOrder.step_value rfl ((AnyOrder.wanted_of rfl rfl eg).trans rfl) (.int .i64 m) (AnyOrder.run_move e0) st.inv (Below.refl _ _) rfl)
                  | 20, ho => (injection ho with ho; subst ho; have ec : ∀ v, a1.eval (.const v) = v := fun _ => rfl; have ef : ∀ f, a1.eval (.func f) = .func (.func f) #[] #[] := fun _ => rfl; have e0 : a1.eval (.tmp 106) = .int .i64 a := st.done 18 106 (hdep ⟨18, .data⟩ (by simp) rfl) rfl; have e1 : a1.eval (.tmp 107) = .int .i64 m := st.done 19 107 (hdep ⟨19, .data⟩ (by simp) rfl) rfl; have eg : a1.eval (.tmp 103) = .bool true := st.done 15 103 (hdep ⟨15, .guard⟩ (by simp) rfl) rfl; exact AnyOrder.step_value rfl ((AnyOrder.wanted_of rfl rfl eg).trans rfl) (.int .i64 (a + m)) (by generalize a1.eval = ρ at ec ef e0 e1 ⊢; simp [execOp, ec, ef, e0, e1, IntWalk.i64_left, e2, go_sem]) st.inv (Below.refl _ _) rfl)
                  | 21, ho => (injection ho with ho; subst ho; have ec : ∀ v, a1.eval (.const v) = v := fun _ => rfl; have ef : ∀ f, a1.eval (.func f) = .func (.func f) #[] #[] := fun _ => rfl; have e0 : a1.eval (.tmp 104) = c.V := st.done 16 104 (hdep ⟨16, .data⟩ (by simp) rfl) rfl; have e1 : a1.eval (.tmp 105) = d.V := st.done 17 105 (hdep ⟨17, .data⟩ (by simp) rfl) rfl; have e2 : a1.eval (.tmp 108) = .int .i64 (a + m) := st.done 20 108 (hdep ⟨20, .data⟩ (by simp) rfl) rfl; have eg : a1.eval (.tmp 103) = .bool true := st.done 15 103 (hdep ⟨15, .chain⟩ (by simp) rfl) rfl; exact AnyOrder.step_call rfl ((AnyOrder.wanted_of rfl rfl eg).trans rfl) 12 #[c.V, d.V, .int .i64 (a + m)] (by generalize a1.eval = ρ at ec ef e0 e1 e2 ⊢; simp [execOp, ec, ef, e0, e1, e2, go_sem]) ((C5.out _).mono (fun e w3 h => by obtain ⟨rfl, hb⟩ := h; exact ⟨_, rfl, st.inv.trans (hb.mono st.inv.size), hb, rfl⟩)))
                  | 22, ho => (injection ho with ho; subst ho; have ec : ∀ v, a1.eval (.const v) = v := fun _ => rfl; have ef : ∀ f, a1.eval (.func f) = .func (.func f) #[] #[] := fun _ => rfl; have e0 : a1.eval (.tmp 4) = ptr w.heap.size 0 := st.old hl 4 (by kernel_rfl); have eg : a1.eval (.tmp 103) = .bool true := st.done 15 103 (hdep ⟨15, .guard⟩ (by simp) rfl) rfl; exact AnyOrder.step_value rfl ((AnyOrder.wanted_of rfl rfl eg).trans rfl) (c.V) (run_load_cfg e0 (HS.out.cf.step st.inv)) st.inv (Below.refl _ _) rfl)
                  | 23, ho => (injection ho with ho; subst ho; have ec : ∀ v, a1.eval (.const v) = v := fun _ => rfl; have ef : ∀ f, a1.eval (.func f) = .func (.func f) #[] #[] := fun _ => rfl; have e0 : a1.eval (.tmp 5) = ptr r 0 := st.old hl 5 (by kernel_rfl); have eg : a1.eval (.tmp 103) = .bool true := st.done 15 103 (hdep ⟨15, .guard⟩ (by simp) rfl) rfl; exact AnyOrder.step_value rfl ((AnyOrder.wanted_of rfl rfl eg).trans rfl) (b.V) (run_load_bt e0 (HS.out.bt.step st.inv)) st.inv (Below.refl _ _) rfl)
                  | 24, ho => (injection ho with ho; subst ho; have ec : ∀ v, a1.eval (.const v) = v := fun _ => rfl; have ef : ∀ f, a1.eval (.func f) = .func (.func f) #[] #[] := fun _ => rfl; have e0 : a1.eval (.tmp 13) = .int .i64 a := st.old hl 13 (by kernel_rfl); have eg : a1.eval (.tmp 103) = .bool true := st.done 15 103 (hdep ⟨15, .guard⟩ (by simp) rfl) rfl; exact AnyOrder.step_value rfl ((AnyOrder.wanted_of rfl rfl eg).trans rfl) (.int .i64 a) (AnyOrder.run_move e0) st.inv (Below.refl _ _) rfl)
                  | 25, ho => (injection ho with ho; subst ho; have ec : ∀ v, a1.eval (.const v) = v := fun _ => rfl; have ef : ∀ f, a1.eval (.func f) = .func (.func f) #[] #[] := fun _ => rfl; have e0 : a1.eval (.tmp 3) = .int .i64 m := st.old hl 3 (by kernel_rfl); have eg : a1.eval (.tmp 103) = .bool true := st.done 15 103 (hdep ⟨15, .guard⟩ (by simp) rfl) rfl; exact AnyOrder.step_value rfl ((AnyOrder.wanted_of rfl rfl eg).trans rfl) (.int .i64 m) (AnyOrder.run_move e0) st.inv (Below.refl _ _) rfl)
                  | 26, ho => (injection ho with ho; subst ho; have ec : ∀ v, a1.eval (.const v) = v := fun _ => rfl; have ef : ∀ f, a1.eval (.func f) = .func (.func f) #[] #[] := fun _ => rfl; have e0 : a1.eval (.tmp 112) = .int .i64 a := st.done 24 112 (hdep ⟨24, .data⟩ (by simp) rfl) rfl; have e1 : a1.eval (.tmp 113) = .int .i64 m := st.done 25 113 (hdep ⟨25, .data⟩ (by simp) rfl) rfl; have eg : a1.eval (.tmp 103) = .bool true := st.done 15 103 (hdep ⟨15, .guard⟩ (by simp) rfl) rfl; exact AnyOrder.step_value rfl ((AnyOrder.wanted_of rfl rfl eg).trans rfl) (.int .i64 (a + m)) (by generalize a1.eval = ρ at ec ef e0 e1 ⊢; simp [execOp, ec, ef, e0, e1, IntWalk.i64_left, e2, go_sem]) st.inv (Below.refl _ _) rfl)
                  | 27, ho => (injection ho with ho; subst ho; have ec : ∀ v, a1.eval (.const v) = v := fun _ => rfl; have ef : ∀ f, a1.eval (.func f) = .func (.func f) #[] #[] := fun _ => rfl; have e0 : a1.eval (.tmp 110) = c.V := st.done 22 110 (hdep ⟨22, .data⟩ (by simp) rfl) rfl; have e1 : a1.eval (.tmp 111) = b.V := st.done 23 111 (hdep ⟨23, .data⟩ (by simp) rfl) rfl; have e2 : a1.eval (.tmp 114) = .int .i64 (a + m) := st.done 26 114 (hdep ⟨26, .data⟩ (by simp) rfl) rfl; have eg : a1.eval (.tmp 103) = .bool true := st.done 15 103 (hdep ⟨15, .guard⟩ (by simp) rfl) rfl; exact AnyOrder.step_call rfl ((AnyOrder.wanted_of rfl rfl eg).trans rfl) 12 #[c.V, b.V, .int .i64 (a + m)] (by generalize a1.eval = ρ at ec ef e0 e1 e2 ⊢; simp [execOp, ec, ef, e0, e1, e2, go_sem]) ((C6.out _).mono (fun e w3 h => by obtain ⟨rfl, hb⟩ := h; exact ⟨_, rfl, st.inv.trans (hb.mono st.inv.size), hb, rfl⟩)))
                  | 28, ho => (injection ho with ho; subst ho; have ec : ∀ v, a1.eval (.const v) = v := fun _ => rfl; have ef : ∀ f, a1.eval (.func f) = .func (.func f) #[] #[] := fun _ => rfl; have e0 : a1.eval (.tmp 109) = .int .i64 z1 := st.done 21 109 (hdep ⟨21, .data⟩ (by simp) rfl) rfl; have e1 : a1.eval (.tmp 115) = .int .i64 z2 := st.done 27 115 (hdep ⟨27, .data⟩ (by simp) rfl) rfl; have eg : a1.eval (.tmp 103) = .bool true := st.done 15 103 (hdep ⟨15, .guard⟩ (by simp) rfl) rfl; exact AnyOrder.step_value rfl ((AnyOrder.wanted_of rfl rfl eg).trans rfl) (.bool true) (by generalize a1.eval = ρ at ec ef e0 e1 ⊢; simp [execOp, ec, ef, e0, e1, IntWalk.i64_left, dz, go_sem]) st.inv (Below.refl _ _) rfl)
                  | 29, ho => (injection ho with ho; subst ho; have ec : ∀ v, a1.eval (.const v) = v := fun _ => rfl; have ef : ∀ f, a1.eval (.func f) = .func (.func f) #[] #[] := fun _ => rfl; have e0 : a1.eval (.tmp 103) = .bool true := st.done 15 103 (hdep ⟨15, .data⟩ (by simp) rfl) rfl; have e1 : a1.eval (.tmp 116) = .bool true := st.done 28 116 (hdep ⟨28, .data⟩ (by simp) rfl) rfl; exact AnyOrder.step_value rfl (AnyOrder.wanted_none rfl) (.bool true) (by generalize a1.eval = ρ at ec ef e0 e1 ⊢; simp [execOp, ec, ef, e0, e1, IntWalk.i64_left, go_sem]) st.inv (Below.refl _ _) rfl)
                  | n + 30, ho => exact absurd hin (by omega)
                · intro w2 hJ
                  simp only [AnyOrder.finK, List.take_succ_cons, List.take_zero, List.drop_succ_cons, List.drop_zero, Act.put, List.setIfInBounds_toArray, List.set_cons_zero, List.set_cons_succ]
                  go_wp2_with fail
                  go_ret
                  exact ⟨rfl, (HS.out.step hJ).bel⟩
              · rw [show max a b.last = a by omega] at *
                have hl2 : ¬ a < b.last := by omega
                have hl3 : ¬ a ≤ b.last := by omega
                clear ht
                generalize hd : (⟨x - 1, a⟩ : Bt) = d at *
                have HDD := Lib.hid hd; clear hd
                go_enter Try.func5, Try.ntmps5
                go_upto_region 1 with fail
                obtain ⟨W, hW⟩ : ∃ W, (w.alloc (.cells c.cells 24)).alloc (.cells b.cells 26) = W := ⟨_, rfl⟩
                rw [hW] at H ⊢; clear hW
                have HS : Hid (CB w W w.heap.size (w.heap.size + 1) c b) := Lib.hid ⟨H.out.2.1, H.out.2.2, HL.out, H.out.1⟩
                clear H HL
                generalize w.heap.size + 1 = r at *
                go_wp2_with fail
                refine (awake_any _).mono ?_
                rintro e w1 ⟨rfl, hb⟩
                replace HS := Lib.hid (HS.out.step hb)
                clear hb
                go_wp2_with (first | ((with_reducible apply wpList_load_cat (h := HS.out.cf)); exact rfl; exact rfl; exact rfl) | ((with_reducible apply wpList_load_bt (h := HS.out.bt)); exact rfl; exact rfl; exact rfl))
                refine (CK.out _).mono ?_
                rintro e w2 ⟨rfl, hb⟩
                replace HS := Lib.hid (HS.out.step hb)
                clear hb CK
                go_wp2_with (first | ((with_reducible apply wpList_load_cat (h := HS.out.cf)); exact rfl; exact rfl; exact rfl) | ((with_reducible apply wpList_load_bt (h := HS.out.bt)); exact rfl; exact rfl; exact rfl))
                refine (CL.out _).mono ?_
                rintro e w3 ⟨rfl, hb⟩
                replace HS := Lib.hid (HS.out.step hb)
                clear hb CL
                go_wp2_with (first | ((with_reducible apply wpList_load_cat (h := HS.out.cf)); exact rfl; exact rfl; exact rfl) | ((with_reducible apply wpList_load_bt (h := HS.out.bt)); exact rfl; exact rfl; exact rfl))
                refine (CY.out _).mono ?_
                rintro e w4 ⟨rfl, hb⟩
                replace HS := Lib.hid (HS.out.step hb)
                clear hb CY
                have kb := HS.out.cf.get (k := 7) (by omega)
                have k0 := HS.out.bt.get0
                go_wp2_with (first | ((with_reducible apply wpList_load_cat (h := HS.out.cf)); exact rfl; exact rfl; exact rfl) | ((with_reducible apply wpList_load_bt (h := HS.out.bt)); exact rfl; exact rfl; exact rfl))
                refine (CT.out _).mono ?_
                rintro e w5 ⟨rfl, hb⟩
                replace HS := Lib.hid (HS.out.step hb)
                clear hb CT
                go_upto_region 10 with (refine wpList_store_row rfl 26 _ _ rfl _ d.cells rfl rfl 26 _ (heap_alloc_new _ _) (sizeBt _) rfl (Bt.one _) ?_; rw [World.setRow_alloc_new])
                have HD := Lib.hid (HS.out.new d).2
                replace HS := Lib.hid (HS.out.new d).1
                obtain ⟨V, hV⟩ : ∃ V, w5.alloc (.cells (Bt.cells d) 26) = V := ⟨_, rfl⟩
                rw [hV] at HD HS ⊢; clear hV
                generalize w5.heap.size = s at *
                have k1 := HS.out.bt.get1
                go_upto_region 13 with fail
                refine AnyOrder.region_kinds2 30 [.eq (c.V), .eq (d.V), .eq (.int .i64 a), .eq (.int .i64 (x - 1)), .eq (c.V), .eq (b.V), .eq (.int .i64 a), .eq (.int .i64 x), .eq (.int .i64 (x - 1)), .eq (.bool true), .eq (.bool true), .eq (c.V), .eq (d.V), .eq (.bool true), .eq (.bool true), .eq (.bool true), .eq (c.V), .eq (d.V), .eq (.int .i64 a), .eq (.int .i64 m), .eq (.int .i64 (a + m)), .eq (.int .i64 z1), .eq (c.V), .eq (b.V), .eq (.int .i64 a), .eq (.int .i64 m), .eq (.int .i64 (a + m)), .eq (.int .i64 z2), .eq (.bool true), .eq (.bool true)] (fun wx => Below V.heap.size V wx) (by kernel_rfl) (by kernel_rfl) rfl (by kernel_rfl) (below_drewN (Below.refl _ _) 1) (fun p _ _ hp => by simp at hp) ?_ ?_
                · intro i o listed a1 w2 hin ho st hl hdep
                  match i, ho with
                  | 0, ho => (injection ho with ho; subst ho; have ec : ∀ v, a1.eval (.const v) = v := fun _ => rfl; have ef : ∀ f, a1.eval (.func f) = .func (.func f) #[] #[] := fun _ => rfl; have e0 : a1.eval (.tmp 4) = ptr w.heap.size 0 := st.old hl 4 (by kernel_rfl); exact AnyOrder.step_value rfl (AnyOrder.wanted_none rfl) (c.V) (run_load_cfg e0 (HS.out.cf.step st.inv)) st.inv (Below.refl _ _) rfl)
                  | 1, ho => (injection ho with ho; subst ho; have ec : ∀ v, a1.eval (.const v) = v := fun _ => rfl; have ef : ∀ f, a1.eval (.func f) = .func (.func f) #[] #[] := fun _ => rfl; have e0 : a1.eval (.tmp 11) = ptr s 0 := st.old hl 11 (by kernel_rfl); exact AnyOrder.step_value rfl (AnyOrder.wanted_none rfl) (d.V) (run_load_bt e0 (HD.out.step st.inv)) st.inv (Below.refl _ _) rfl)
                  | 2, ho => (injection ho with ho; subst ho; have ec : ∀ v, a1.eval (.const v) = v := fun _ => rfl; have ef : ∀ f, a1.eval (.func f) = .func (.func f) #[] #[] := fun _ => rfl; have e0 : a1.eval (.tmp 13) = .int .i64 a := st.old hl 13 (by kernel_rfl); exact AnyOrder.step_value rfl (AnyOrder.wanted_none rfl) (.int .i64 a) (AnyOrder.run_move e0) st.inv (Below.refl _ _) rfl)
                  | 3, ho => (injection ho with ho; subst ho; have ec : ∀ v, a1.eval (.const v) = v := fun _ => rfl; have ef : ∀ f, a1.eval (.func f) = .func (.func f) #[] #[] := fun _ => rfl; have e0 : a1.eval (.tmp 88) = c.V := st.done 0 88 (hdep ⟨0, .data⟩ (by simp) rfl) rfl; have e1 : a1.eval (.tmp 89) = d.V := st.done 1 89 (hdep ⟨1, .data⟩ (by simp) rfl) rfl; have e2 : a1.eval (.tmp 90) = .int .i64 a := st.done 2 90 (hdep ⟨2, .data⟩ (by simp) rfl) rfl; exact AnyOrder.step_call rfl (AnyOrder.wanted_none rfl) 12 #[c.V, d.V, .int .i64 a] (by generalize a1.eval = ρ at ec ef e0 e1 e2 ⊢; simp [execOp, ec, ef, e0, e1, e2, go_sem]) ((C3.out _).mono (fun e w3 h => by obtain ⟨rfl, hb⟩ := h; exact ⟨_, rfl, st.inv.trans (hb.mono st.inv.size), hb, rfl⟩)))
                  | 4, ho => (injection ho with ho; subst ho; have ec : ∀ v, a1.eval (.const v) = v := fun _ => rfl; have ef : ∀ f, a1.eval (.func f) = .func (.func f) #[] #[] := fun _ => rfl; have e0 : a1.eval (.tmp 4) = ptr w.heap.size 0 := st.old hl 4 (by kernel_rfl); exact AnyOrder.step_value rfl (AnyOrder.wanted_none rfl) (c.V) (run_load_cfg e0 (HS.out.cf.step st.inv)) st.inv (Below.refl _ _) rfl)
                  | 5, ho => (injection ho with ho; subst ho; have ec : ∀ v, a1.eval (.const v) = v := fun _ => rfl; have ef : ∀ f, a1.eval (.func f) = .func (.func f) #[] #[] := fun _ => rfl; have e0 : a1.eval (.tmp 5) = ptr r 0 := st.old hl 5 (by kernel_rfl); exact AnyOrder.step_value rfl (AnyOrder.wanted_none rfl) (b.V) (run_load_bt e0 (HS.out.bt.step st.inv)) st.inv (Below.refl _ _) rfl)
                  | 6, ho => (injection ho with ho; subst ho; have ec : ∀ v, a1.eval (.const v) = v := fun _ => rfl; have ef : ∀ f, a1.eval (.func f) = .func (.func f) #[] #[] := fun _ => rfl; have e0 : a1.eval (.tmp 2) = .int .i64 a := st.old hl 2 (by kernel_rfl); exact AnyOrder.step_value rfl (AnyOrder.wanted_none rfl) (.int .i64 a) (AnyOrder.run_move e0) st.inv (Below.refl _ _) rfl)
                  | 7, ho => (injection ho with ho; subst ho; have ec : ∀ v, a1.eval (.const v) = v := fun _ => rfl; have ef : ∀ f, a1.eval (.func f) = .func (.func f) #[] #[] := fun _ => rfl; have e0 : a1.eval (.tmp 92) = c.V := st.done 4 92 (hdep ⟨4, .data⟩ (by simp) rfl) rfl; have e1 : a1.eval (.tmp 93) = b.V := st.done 5 93 (hdep ⟨5, .data⟩ (by simp) rfl) rfl; have e2 : a1.eval (.tmp 94) = .int .i64 a := st.done 6 94 (hdep ⟨6, .data⟩ (by simp) rfl) rfl; exact AnyOrder.step_call rfl (AnyOrder.wanted_none rfl) 12 #[c.V, b.V, .int .i64 a] (by generalize a1.eval = ρ at ec ef e0 e1 e2 ⊢; simp [execOp, ec, ef, e0, e1, e2, go_sem]) ((CX.out _).mono (fun e w3 h => by obtain ⟨rfl, hb⟩ := h; exact ⟨_, rfl, st.inv.trans (hb.mono st.inv.size), hb, rfl⟩)))
                  | 8, ho => (injection ho with ho; subst ho; have ec : ∀ v, a1.eval (.const v) = v := fun _ => rfl; have ef : ∀ f, a1.eval (.func f) = .func (.func f) #[] #[] := fun _ => rfl; have e0 : a1.eval (.tmp 95) = .int .i64 x := st.done 7 95 (hdep ⟨7, .data⟩ (by simp) rfl) rfl; exact AnyOrder.step_value rfl (AnyOrder.wanted_none rfl) (.int .i64 (x - 1)) (by generalize a1.eval = ρ at ec ef e0 ⊢; simp [execOp, ec, ef, e0, IntWalk.i64_left, e1, go_sem]) st.inv (Below.refl _ _) rfl)
                  | 9, ho => (injection ho with ho; subst ho; have ec : ∀ v, a1.eval (.const v) = v := fun _ => rfl; have ef : ∀ f, a1.eval (.func f) = .func (.func f) #[] #[] := fun _ => rfl; have e0 : a1.eval (.tmp 91) = .int .i64 (x - 1) := st.done 3 91 (hdep ⟨3, .data⟩ (by simp) rfl) rfl; have e1 : a1.eval (.tmp 96) = .int .i64 (x - 1) := st.done 8 96 (hdep ⟨8, .data⟩ (by simp) rfl) rfl; exact AnyOrder.step_value rfl (AnyOrder.wanted_none rfl) (.bool true) (by generalize a1.eval = ρ at ec ef e0 e1 ⊢; simp [execOp, ec, ef, e0, e1, IntWalk.i64_left, eqI, go_sem]) st.inv (Below.refl _ _) rfl)
                  | 10, ho => (injection ho with ho; subst ho; have ec : ∀ v, a1.eval (.const v) = v := fun _ => rfl; have ef : ∀ f, a1.eval (.func f) = .func (.func f) #[] #[] := fun _ => rfl; have e0 : a1.eval (.tmp 97) = .bool true := st.done 9 97 (hdep ⟨9, .data⟩ (by simp) rfl) rfl; exact AnyOrder.step_value rfl (AnyOrder.wanted_none rfl) (.bool true) (AnyOrder.run_move e0) st.inv (Below.refl _ _) rfl)
                  | 11, ho => (injection ho with ho; subst ho; have ec : ∀ v, a1.eval (.const v) = v := fun _ => rfl; have ef : ∀ f, a1.eval (.func f) = .func (.func f) #[] #[] := fun _ => rfl; have e0 : a1.eval (.tmp 4) = ptr w.heap.size 0 := st.old hl 4 (by kernel_rfl); have eg : a1.eval (.tmp 98) = .bool true := st.done 10 98 (hdep ⟨10, .guard⟩ (by simp) rfl) rfl; exact AnyOrder.step_value rfl ((AnyOrder.wanted_of rfl rfl eg).trans rfl) (c.V) (run_load_cfg e0 (HS.out.cf.step st.inv)) st.inv (Below.refl _ _) rfl)
                  | 12, ho => (injection ho with ho; subst ho; have ec : ∀ v, a1.eval (.const v) = v := fun _ => rfl; have ef : ∀ f, a1.eval (.func f) = .func (.func f) #[] #[] := fun _ => rfl; have e0 : a1.eval (.tmp 11) = ptr s 0 := st.old hl 11 (by kernel_rfl); have eg : a1.eval (.tmp 98) = .bool true := st.done 10 98 (hdep ⟨10, .guard⟩ (by simp) rfl) rfl; exact AnyOrder.step_value rfl ((AnyOrder.wanted_of rfl rfl eg).trans rfl) (d.V) (run_load_bt e0 (HD.out.step st.inv)) st.inv (Below.refl _ _) rfl)
                  | 13, ho => (injection ho with ho; subst ho; have ec : ∀ v, a1.eval (.const v) = v := fun _ => rfl; have ef : ∀ f, a1.eval (.func f) = .func (.func f) #[] #[] := fun _ => rfl; have e0 : a1.eval (.tmp 99) = c.V := st.done 11 99 (hdep ⟨11, .data⟩ (by simp) rfl) rfl; have e1 : a1.eval (.tmp 100) = d.V := st.done 12 100 (hdep ⟨12, .data⟩ (by simp) rfl) rfl; have eg : a1.eval (.tmp 98) = .bool true := st.done 10 98 (hdep ⟨10, .chain⟩ (by simp) rfl) rfl; exact AnyOrder.step_call rfl ((AnyOrder.wanted_of rfl rfl eg).trans rfl) 8 #[c.V, d.V] (by generalize a1.eval = ρ at ec ef e0 e1 ⊢; simp [execOp, ec, ef, e0, e1, go_sem]) ((C4.out _).mono (fun e w3 h => by obtain ⟨rfl, hb⟩ := h; exact ⟨_, rfl, st.inv.trans (hb.mono st.inv.size), hb, rfl⟩)))
                  | 14, ho => (injection ho with ho; subst ho; have ec : ∀ v, a1.eval (.const v) = v := fun _ => rfl; have ef : ∀ f, a1.eval (.func f) = .func (.func f) #[] #[] := fun _ => rfl; have e0 : a1.eval (.tmp 98) = .bool true := st.done 10 98 (hdep ⟨10, .data⟩ (by simp) rfl) rfl; have e1 : a1.eval (.tmp 101) = .bool true := st.done 13 101 (hdep ⟨13, .data⟩ (by simp) rfl) rfl; exact AnyOrder.step_value rfl (AnyOrder.wanted_none rfl) (.bool true) (by generalize a1.eval = ρ at ec ef e0 e1 ⊢; simp [execOp, ec, ef, e0, e1, IntWalk.i64_left, go_sem]) st.inv (Below.refl _ _) rfl)
                  | 15, ho => (injection ho with ho; subst ho; have ec : ∀ v, a1.eval (.const v) = v := fun _ => rfl; have ef : ∀ f, a1.eval (.func f) = .func (.func f) #[] #[] := fun _ => rfl; have e0 : a1.eval (.tmp 102) = .bool true := st.done 14 102 (hdep ⟨14, .data⟩ (by simp) rfl) rfl; exact AnyOrder.step_value rfl (AnyOrder.wanted_none rfl) (.bool true) (AnyOrder.run_move e0) st.inv (Below.refl _ _) rfl)
                  | 16, ho => (injection ho with ho; subst ho; have ec : ∀ v, a1.eval (.const v) = v := fun _ => rfl; have ef : ∀ f, a1.eval (.func f) = .func (.func f) #[] #[] := fun _ => rfl; have e0 : a1.eval (.tmp 4) = ptr w.heap.size 0 := st.old hl 4 (by kernel_rfl); have eg : a1.eval (.tmp 103) = .bool true := st.done 15 103 (hdep ⟨15, .guard⟩ (by simp) rfl) rfl; exact AnyOrder.step_value rfl ((AnyOrder.wanted_of rfl rfl eg).trans rfl) (c.V) (run_load_cfg e0 (HS.out.cf.step st.inv)) st.inv (Below.refl _ _) rfl)
                  | 17, ho => (injection ho with ho; subst ho; have ec : ∀ v, a1.eval (.const v) = v := fun _ => rfl; have ef : ∀ f, a1.eval (.func f) = .func (.func f) #[] #[] := fun _ => rfl; have e0 : a1.eval (.tmp 11) = ptr s 0 := st.old hl 11 (by kernel_rfl); have eg : a1.eval (.tmp 103) = .bool true := st.done 15 103 (hdep ⟨15, .guard⟩ (by simp) rfl) rfl; exact AnyOrder.step_value rfl ((AnyOrder.wanted_of rfl rfl eg).trans rfl) (d.V) (run_load_bt e0 (HD.out.step st.inv)) st.inv (Below.refl _ _) rfl)
                  | 18, ho => (injection ho with ho; subst ho; have ec : ∀ v, a1.eval (.const v) = v := fun _ => rfl; have ef : ∀ f, a1.eval (.func f) = .func (.func f) #[] #[] := fun _ => rfl; have e0 : a1.eval (.tmp 13) = .int .i64 a := st.old hl 13 (by kernel_rfl); have eg : a1.eval (.tmp 103) = .bool true := st.done 15 103 (hdep ⟨15, .guard⟩ (by simp) rfl) rfl; exact AnyOrder.step_value rfl ((AnyOrder.wanted_of rfl rfl eg).trans rfl) (.int .i64 a) (AnyOrder.run_move e0) st.inv (Below.refl _ _) rfl)
                  | 19, ho => (injection ho with ho; subst ho; have ec : ∀ v, a1.eval (.const v) = v := fun _ => rfl; have ef : ∀ f, a1.eval (.func f) = .func (.func f) #[] #[] := fun _ => rfl; have e0 : a1.eval (.tmp 3) = .int .i64 m := st.old hl 3 (by kernel_rfl); have eg : a1.eval (.tmp 103) = .bool true := st.done 15 103 (hdep ⟨15, .guard⟩ (by simp) rfl) rfl; exact AnyOrder.step_value rfl ((AnyOrder.wanted_of rfl rfl eg).trans rfl) (.int .i64 m) (AnyOrder.run_move e0) st.inv (Below.refl _ _) rfl)
                  | 20, ho => (injection ho with ho; subst ho; have ec : ∀ v, a1.eval (.const v) = v := fun _ => rfl; have ef : ∀ f, a1.eval (.func f) = .func (.func f) #[] #[] := fun _ => rfl; have e0 : a1.eval (.tmp 106) = .int .i64 a := st.done 18 106 (hdep ⟨18, .data⟩ (by simp) rfl) rfl; have e1 : a1.eval (.tmp 107) = .int .i64 m := st.done 19 107 (hdep ⟨19, .data⟩ (by simp) rfl) rfl; have eg : a1.eval (.tmp 103) = .bool true := st.done 15 103 (hdep ⟨15, .guard⟩ (by simp) rfl) rfl; exact AnyOrder.step_value rfl ((AnyOrder.wanted_of rfl rfl eg).trans rfl) (.int .i64 (a + m)) (by generalize a1.eval = ρ at ec ef e0 e1 ⊢; simp [execOp, ec, ef, e0, e1, IntWalk.i64_left, e2, go_sem]) st.inv (Below.refl _ _) rfl)
                  | 21, ho => (injection ho with ho; subst ho; have ec : ∀ v, a1.eval (.const v) = v := fun _ => rfl; have ef : ∀ f, a1.eval (.func f) = .func (.func f) #[] #[] := fun _ => rfl; have e0 : a1.eval (.tmp 104) = c.V := st.done 16 104 (hdep ⟨16, .data⟩ (by simp) rfl) rfl; have e1 : a1.eval (.tmp 105) = d.V := st.done 17 105 (hdep ⟨17, .data⟩ (by simp) rfl) rfl; have e2 : a1.eval (.tmp 108) = .int .i64 (a + m) := st.done 20 108 (hdep ⟨20, .data⟩ (by simp) rfl) rfl; have eg : a1.eval (.tmp 103) = .bool true := st.done 15 103 (hdep ⟨15, .chain⟩ (by simp) rfl) rfl; exact AnyOrder.step_call rfl ((AnyOrder.wanted_of rfl rfl eg).trans rfl) 12 #[c.V, d.V, .int .i64 (a + m)] (by generalize a1.eval = ρ at ec ef e0 e1 e2 ⊢; simp [execOp, ec, ef, e0, e1, e2, go_sem]) ((C5.out _).mono (fun e w3 h => by obtain ⟨rfl, hb⟩ := h; exact ⟨_, rfl, st.inv.trans (hb.mono st.inv.size), hb, rfl⟩)))
                  | 22, ho => (injection ho with ho; subst ho; have ec : ∀ v, a1.eval (.const v) = v := fun _ => rfl; have ef : ∀ f, a1.eval (.func f) = .func (.func f) #[] #[] := fun _ => rfl; have e0 : a1.eval (.tmp 4) = ptr w.heap.size 0 := st.old hl 4 (by kernel_rfl); have eg : a1.eval (.tmp 103) = .bool true := st.done 15 103 (hdep ⟨15, .guard⟩ (by simp) rfl) rfl; exact AnyOrder.step_value rfl ((AnyOrder.wanted_of rfl rfl eg).trans rfl) (c.V) (run_load_cfg e0 (HS.out.cf.step st.inv)) st.inv (Below.refl _ _) rfl)
                  | 23, ho => (injection ho with ho; subst ho; have ec : ∀ v, a1.eval (.const v) = v := fun _ => rfl; have ef : ∀ f, a1.eval (.func f) = .func (.func f) #[] #[] := fun _ => rfl; have e0 : a1.eval (.tmp 5) = ptr r 0 := st.old hl 5 (by kernel_rfl); have eg : a1.eval (.tmp 103) = .bool true := st.done 15 103 (hdep ⟨15, .guard⟩ (by simp) rfl) rfl; exact AnyOrder.step_value rfl ((AnyOrder.wanted_of rfl rfl eg).trans rfl) (b.V) (run_load_bt e0 (HS.out.bt.step st.inv)) st.inv (Below.refl _ _) rfl)
                  | 24, ho => (injection ho with ho; subst ho; have ec : ∀ v, a1.eval (.const v) = v := fun _ => rfl; have ef : ∀ f, a1.eval (.func f) = .func (.func f) #[] #[] := fun _ => rfl; have e0 : a1.eval (.tmp 13) = .int .i64 a := st.old hl 13 (by kernel_rfl); have eg : a1.eval (.tmp 103) = .bool true := st.done 15 103 (hdep ⟨15, .guard⟩ (by simp) rfl) rfl; exact AnyOrder.step_value rfl ((AnyOrder.wanted_of rfl rfl eg).trans rfl) (.int .i64 a) (AnyOrder.run_move e0) st.inv (Below.refl _ _) rfl)
                  | 25, ho => (injection ho with ho; subst ho; have ec : ∀ v, a1.eval (.const v) = v := fun _ => rfl; have ef : ∀ f, a1.eval (.func f) = .func (.func f) #[] #[] := fun _ => rfl; have e0 : a1.eval (.tmp 3) = .int .i64 m := st.old hl 3 (by kernel_rfl); have eg : a1.eval (.tmp 103) = .bool true := st.done 15 103 (hdep ⟨15, .guard⟩ (by simp) rfl) rfl; exact AnyOrder.step_value rfl ((AnyOrder.wanted_of rfl rfl eg).trans rfl) (.int .i64 m) (AnyOrder.run_move e0) st.inv (Below.refl _ _) rfl)
                  | 26, ho => (injection ho with ho; subst ho; have ec : ∀ v, a1.eval (.const v) = v := fun _ => rfl; have ef : ∀ f, a1.eval (.func f) = .func (.func f) #[] #[] := fun _ => rfl; have e0 : a1.eval (.tmp 112) = .int .i64 a := st.done 24 112 (hdep ⟨24, .data⟩ (by simp) rfl) rfl; have e1 : a1.eval (.tmp 113) = .int .i64 m := st.done 25 113 (hdep ⟨25, .data⟩ (by simp) rfl) rfl; have eg : a1.eval (.tmp 103) = .bool true := st.done 15 103 (hdep ⟨15, .guard⟩ (by simp) rfl) rfl; exact AnyOrder.step_value rfl ((AnyOrder.wanted_of rfl rfl eg).trans rfl) (.int .i64 (a + m)) (by generalize a1.eval = ρ at ec ef e0 e1 ⊢; simp [execOp, ec, ef, e0, e1, IntWalk.i64_left, e2, go_sem]) st.inv (Below.refl _ _) rfl)
                  | 27, ho => (injection ho with ho; subst ho; have ec : ∀ v, a1.eval (.const v) = v := fun _ => rfl; have ef : ∀ f, a1.eval (.func f) = .func (.func f) #[] #[] := fun _ => rfl; have e0 : a1.eval (.tmp 110) = c.V := st.done 22 110 (hdep ⟨22, .data⟩ (by simp) rfl) rfl; have e1 : a1.eval (.tmp 111) = b.V := st.done 23 111 (hdep ⟨23, .data⟩ (by simp) rfl) rfl; have e2 : a1.eval (.tmp 114) = .int .i64 (a + m) := st.done 26 114 (hdep ⟨26, .data⟩ (by simp) rfl) rfl; have eg : a1.eval (.tmp 103) = .bool true := st.done 15 103 (hdep ⟨15, .guard⟩ (by simp) rfl) rfl; exact AnyOrder.step_call rfl ((AnyOrder.wanted_of rfl rfl eg).trans rfl) 12 #[c.V, b.V, .int .i64 (a + m)] (by generalize a1.eval = ρ at ec ef e0 e1 e2 ⊢; simp [execOp, ec, ef, e0, e1, e2, go_sem]) ((C6.out _).mono (fun e w3 h => by obtain ⟨rfl, hb⟩ := h; exact ⟨_, rfl, st.inv.trans (hb.mono st.inv.size), hb, rfl⟩)))
                  | 28, ho => (injection ho with ho; subst ho; have ec : ∀ v, a1.eval (.const v) = v := fun _ => rfl; have ef : ∀ f, a1.eval (.func f) = .func (.func f) #[] #[] := fun _ => rfl; have e0 : a1.eval (.tmp 109) = .int .i64 z1 := st.done 21 109 (hdep ⟨21, .data⟩ (by simp) rfl) rfl; have e1 : a1.eval (.tmp 115) = .int .i64 z2 := st.done 27 115 (hdep ⟨27, .data⟩ (by simp) rfl) rfl; have eg : a1.eval (.tmp 103) = .bool true := st.done 15 103 (hdep ⟨15, .guard⟩ (by simp) rfl) rfl; exact AnyOrder.step_value rfl ((AnyOrder.wanted_of rfl rfl eg).trans rfl) (.bool true) (by generalize a1.eval = ρ at ec ef e0 e1 ⊢; simp [execOp, ec, ef, e0, e1, IntWalk.i64_left, dz, go_sem]) st.inv (Below.refl _ _) rfl)
                  | 29, ho => (injection ho with ho; subst ho; have ec : ∀ v, a1.eval (.const v) = v := fun _ => rfl; have ef : ∀ f, a1.eval (.func f) = .func (.func f) #[] #[] := fun _ => rfl; have e0 : a1.eval (.tmp 103) = .bool true := st.done 15 103 (hdep ⟨15, .data⟩ (by simp) rfl) rfl; have e1 : a1.eval (.tmp 116) = .bool true := st.done 28 116 (hdep ⟨28, .data⟩ (by simp) rfl) rfl; exact AnyOrder.step_value rfl (AnyOrder.wanted_none rfl) (.bool true) (by generalize a1.eval = ρ at ec ef e0 e1 ⊢; simp [execOp, ec, ef, e0, e1, IntWalk.i64_left, go_sem]) st.inv (Below.refl _ _) rfl)
                  | n + 30, ho => exact absurd hin (by omega)
                · intro w2 hJ
                  simp only [AnyOrder.finK, List.take_succ_cons, List.take_zero, List.drop_succ_cons, List.drop_zero, Act.put, List.setIfInBounds_toArray, List.set_cons_zero, List.set_cons_succ]
                  go_wp2_with fail
                  go_ret
                  exact ⟨rfl, (HS.out.step hJ).bel⟩
            · have hx0 : lev c b.tok b.last a = 0 := by omega
              have htk : tkn c b a = b := if_neg hx
              rw [htk, decide_eq_false hx] at CT
              rw [hx0] at CL g1 g2 g4 g5
              generalize lev c b.tok b.last (a + m) = y at *
              clear hp ht hB hBu h0 h1 h2 h3 hk hx hx0 htk
              go_enter Try.func5, Try.ntmps5
              go_upto_region 1 with fail
              obtain ⟨W, hW⟩ : ∃ W, (w.alloc (.cells c.cells 24)).alloc (.cells b.cells 26) = W := ⟨_, rfl⟩
              rw [hW] at H ⊢; clear hW
              have HS : Hid (CB w W w.heap.size (w.heap.size + 1) c b) := Lib.hid ⟨H.out.2.1, H.out.2.2, HL.out, H.out.1⟩
              clear H HL
              generalize w.heap.size + 1 = r at *
              go_wp2_with fail
              refine (awake_any _).mono ?_
              rintro e w1 ⟨rfl, hb⟩
              replace HS := Lib.hid (HS.out.step hb)
              clear hb
              go_wp2_with (first | ((with_reducible apply wpList_load_cat (h := HS.out.cf)); exact rfl; exact rfl; exact rfl) | ((with_reducible apply wpList_load_bt (h := HS.out.bt)); exact rfl; exact rfl; exact rfl))
              refine (CK.out _).mono ?_
              rintro e w2 ⟨rfl, hb⟩
              replace HS := Lib.hid (HS.out.step hb)
              clear hb CK
              go_wp2_with (first | ((with_reducible apply wpList_load_cat (h := HS.out.cf)); exact rfl; exact rfl; exact rfl) | ((with_reducible apply wpList_load_bt (h := HS.out.bt)); exact rfl; exact rfl; exact rfl))
              refine (CL.out _).mono ?_
              rintro e w3 ⟨rfl, hb⟩
              replace HS := Lib.hid (HS.out.step hb)
              clear hb CL
              go_wp2_with (first | ((with_reducible apply wpList_load_cat (h := HS.out.cf)); exact rfl; exact rfl; exact rfl) | ((with_reducible apply wpList_load_bt (h := HS.out.bt)); exact rfl; exact rfl; exact rfl))
              refine (CY.out _).mono ?_
              rintro e w4 ⟨rfl, hb⟩
              replace HS := Lib.hid (HS.out.step hb)
              clear hb CY
              have kb := HS.out.cf.get (k := 7) (by omega)
              have k0 := HS.out.bt.get0
              go_wp2_with (first | ((with_reducible apply wpList_load_cat (h := HS.out.cf)); exact rfl; exact rfl; exact rfl) | ((with_reducible apply wpList_load_bt (h := HS.out.bt)); exact rfl; exact rfl; exact rfl))
              refine (CT.out _).mono ?_
              rintro e w5 ⟨rfl, hb⟩
              replace HS := Lib.hid (HS.out.step hb)
              clear hb CT
              go_upto_region 10 with (refine wpList_store_row rfl 26 _ _ rfl _ b.cells rfl rfl 26 _ (heap_alloc_new _ _) (sizeBt _) rfl (Bt.one _) ?_; rw [World.setRow_alloc_new])
              have HD := Lib.hid (HS.out.new b).2
              replace HS := Lib.hid (HS.out.new b).1
              obtain ⟨V, hV⟩ : ∃ V, w5.alloc (.cells (Bt.cells b) 26) = V := ⟨_, rfl⟩
              rw [hV] at HD HS ⊢; clear hV
              generalize w5.heap.size = s at *
              go_wp2_with (first | ((with_reducible apply wpList_load_bt (h := HD.out)); exact rfl; exact rfl; exact rfl) | ((with_reducible apply wpList_load_bt (h := HS.out.bt)); exact rfl; exact rfl; exact rfl) | ((with_reducible apply wpList_eql_bt (c := b) (d := b) (b := true)); exact rfl; exact rfl; exact rfl; exact rfl; exact Bt.beq_self _))
              go_ret
              exact ⟨rfl, HS.out.bel⟩
          · rw [hk] at CK
            have d3 : decide (m > 536870912) = true := decide_eq_true (by omega)
            have d0 : decide (a < 0) = false := decide_eq_false (by omega)
            have d1 : decide (a > 536870912) = false := decide_eq_false (by omega)
            have d2 : decide (m < 0) = false := decide_eq_false (by omega)
            clear hk h0 h1 h2 h3
            go_enter Try.func5, Try.ntmps5
            go_upto_region 1 with fail
            obtain ⟨W, hW⟩ : ∃ W, (w.alloc (.cells c.cells 24)).alloc (.cells b.cells 26) = W := ⟨_, rfl⟩
            rw [hW] at H ⊢; clear hW
            have HS : Hid (CB w W w.heap.size (w.heap.size + 1) c b) := Lib.hid ⟨H.out.2.1, H.out.2.2, HL.out, H.out.1⟩
            clear H HL
            generalize w.heap.size + 1 = r at *
            go_wp2_with fail
            refine (awake_any _).mono ?_
            rintro e w1 ⟨rfl, hb⟩
            replace HS := Lib.hid (HS.out.step hb)
            clear hb
            go_wp2_with (first | ((with_reducible apply wpList_load_cat (h := HS.out.cf)); exact rfl; exact rfl; exact rfl) | ((with_reducible apply wpList_load_bt (h := HS.out.bt)); exact rfl; exact rfl; exact rfl))
            refine (CK.out _).mono ?_
            rintro e w2 ⟨rfl, hb⟩
            replace HS := Lib.hid (HS.out.step hb)
            clear hb CK
            go_wp2_with fail
            go_ret
            exact ⟨rfl, HS.out.bel⟩
        · rw [hk] at CK
          have d2 : decide (m < 0) = true := decide_eq_true (by omega)
          have d0 : decide (a < 0) = false := decide_eq_false (by omega)
          have d1 : decide (a > 536870912) = false := decide_eq_false (by omega)
          clear hk h0 h1 h2
          go_enter Try.func5, Try.ntmps5
          go_upto_region 1 with fail
          obtain ⟨W, hW⟩ : ∃ W, (w.alloc (.cells c.cells 24)).alloc (.cells b.cells 26) = W := ⟨_, rfl⟩
          rw [hW] at H ⊢; clear hW
          have HS : Hid (CB w W w.heap.size (w.heap.size + 1) c b) := Lib.hid ⟨H.out.2.1, H.out.2.2, HL.out, H.out.1⟩
          clear H HL
          generalize w.heap.size + 1 = r at *
          go_wp2_with fail
          refine (awake_any _).mono ?_
          rintro e w1 ⟨rfl, hb⟩
          replace HS := Lib.hid (HS.out.step hb)
          clear hb
          go_wp2_with (first | ((with_reducible apply wpList_load_cat (h := HS.out.cf)); exact rfl; exact rfl; exact rfl) | ((with_reducible apply wpList_load_bt (h := HS.out.bt)); exact rfl; exact rfl; exact rfl))
          refine (CK.out _).mono ?_
          rintro e w2 ⟨rfl, hb⟩
          replace HS := Lib.hid (HS.out.step hb)
          clear hb CK
          go_wp2_with fail
          go_ret
          exact ⟨rfl, HS.out.bel⟩
      · rw [hk] at CK
        have d1 : decide (a > 536870912) = true := decide_eq_true (by omega)
        have d0 : decide (a < 0) = false := decide_eq_false (by omega)
        clear hk h0 h1
        go_enter Try.func5, Try.ntmps5
        go_upto_region 1 with fail
        obtain ⟨W, hW⟩ : ∃ W, (w.alloc (.cells c.cells 24)).alloc (.cells b.cells 26) = W := ⟨_, rfl⟩
        rw [hW] at H ⊢; clear hW
        have HS : Hid (CB w W w.heap.size (w.heap.size + 1) c b) := Lib.hid ⟨H.out.2.1, H.out.2.2, HL.out, H.out.1⟩
        clear H HL
        generalize w.heap.size + 1 = r at *
        go_wp2_with fail
        refine (awake_any _).mono ?_
        rintro e w1 ⟨rfl, hb⟩
        replace HS := Lib.hid (HS.out.step hb)
        clear hb
        go_wp2_with (first | ((with_reducible apply wpList_load_cat (h := HS.out.cf)); exact rfl; exact rfl; exact rfl) | ((with_reducible apply wpList_load_bt (h := HS.out.bt)); exact rfl; exact rfl; exact rfl))
        refine (CK.out _).mono ?_
        rintro e w2 ⟨rfl, hb⟩
        replace HS := Lib.hid (HS.out.step hb)
        clear hb CK
        go_wp2_with fail
        go_ret
        exact ⟨rfl, HS.out.bel⟩
    · rw [hk] at CK
      have d0 : decide (a < 0) = true := decide_eq_true (by omega)
      clear hk h0
      go_enter Try.func5, Try.ntmps5
      go_upto_region 1 with fail
      obtain ⟨W, hW⟩ : ∃ W, (w.alloc (.cells c.cells 24)).alloc (.cells b.cells 26) = W := ⟨_, rfl⟩
      rw [hW] at H ⊢; clear hW
      have HS : Hid (CB w W w.heap.size (w.heap.size + 1) c b) := Lib.hid ⟨H.out.2.1, H.out.2.2, HL.out, H.out.1⟩
      clear H HL
      generalize w.heap.size + 1 = r at *
      go_wp2_with fail
      refine (awake_any _).mono ?_
      rintro e w1 ⟨rfl, hb⟩
      replace HS := Lib.hid (HS.out.step hb)
      clear hb
      go_wp2_with (first | ((with_reducible apply wpList_load_cat (h := HS.out.cf)); exact rfl; exact rfl; exact rfl) | ((with_reducible apply wpList_load_bt (h := HS.out.bt)); exact rfl; exact rfl; exact rfl))
      refine (CK.out _).mono ?_
      rintro e w2 ⟨rfl, hb⟩
      replace HS := Lib.hid (HS.out.step hb)
      clear hb CK
      go_wp2_with fail
      go_ret
      exact ⟨rfl, HS.out.bel⟩
  · have hk' : okB c b.tok b.last = false := by simpa using hk
    rw [hk'] at CK
    clear hk hk'
    go_enter Try.func5, Try.ntmps5
    go_upto_region 1 with fail
    obtain ⟨W, hW⟩ : ∃ W, (w.alloc (.cells c.cells 24)).alloc (.cells b.cells 26) = W := ⟨_, rfl⟩
    rw [hW] at H ⊢; clear hW
    have HS : Hid (CB w W w.heap.size (w.heap.size + 1) c b) := Lib.hid ⟨H.out.2.1, H.out.2.2, HL.out, H.out.1⟩
    clear H HL
    generalize w.heap.size + 1 = r at *
    go_wp2_with fail
    refine (awake_any _).mono ?_
    rintro e w1 ⟨rfl, hb⟩
    replace HS := Lib.hid (HS.out.step hb)
    clear hb
    go_wp2_with (first | ((with_reducible apply wpList_load_cat (h := HS.out.cf)); exact rfl; exact rfl; exact rfl) | ((with_reducible apply wpList_load_bt (h := HS.out.bt)); exact rfl; exact rfl; exact rfl))
    refine (CK.out _).mono ?_
    rintro e w2 ⟨rfl, hb⟩
    replace HS := Lib.hid (HS.out.step hb)
    clear hb CK
    go_wp2_with fail
    go_ret
    exact ⟨rfl, HS.out.bel⟩
end Go.Proofs.Ytepfgheliddpmaa
