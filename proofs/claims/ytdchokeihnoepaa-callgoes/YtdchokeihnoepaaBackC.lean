/- Who is left waits as before: a Trip that is told a car again. -/
import Derived.Test.YtdchokeihnoepaaBackB
namespace Go.Proofs.Ytdchokeihnoepaa
open Go.RowKit Go.Lib
set_option linter.unusedVariables false
set_option linter.unusedSimpArgs false

set_option maxRecDepth 100000 in
set_option maxHeartbeats 3200000 in
theorem cb_on_true (c : Cfg) (x y a b m n : K) (t car fl : Int) (w : World) (h1 : 1 ≤ fl) (h2 : fl ≤ c.get 0) (ht : fl ≠ t) (d9 : decide (fl < t) = true) (hx3 : x.dto = t) (hm5 : m.st = 1) (hm4 : m.car = 0) (hm3 : m.dto = t) (hm2 : m.frm = fl) (cn : (∀ W, Calls Try.prog 6 #[c.V, x.V, .int .i64 7, .int .i64 8, .int .i64 9] W fun e w' => e = .returned (.tuple #[y.V, .int .i64 0]) ∧ Below W.heap.size W w')) (ca : (∀ W, Calls Try.prog 7 #[c.V, y.V, .int .i64 car] W fun e w' => e = .returned (.tuple #[a.V, .int .i64 0]) ∧ Below W.heap.size W w')) (cl : (∀ W, Calls Try.prog 8 #[c.V, a.V, .int .i64 fl] W fun e w' => e = .returned (.tuple #[y.V, .int .i64 0]) ∧ Below W.heap.size W w')) (cb : (∀ W, Calls Try.prog 9 #[a.V] W fun e w' => e = .returned (.tuple #[b.V, .int .i64 0]) ∧ Below W.heap.size W w')) (ce : (∀ W, Calls Try.prog 8 #[c.V, b.V, .int .i64 fl] W fun e w' => e = .returned (.tuple #[m.V, .int .i64 0]) ∧ Below W.heap.size W w')) (ci : (∀ W, Calls Try.prog 7 #[c.V, m.V, .int .i64 car] W fun e w' => e = .returned (.tuple #[n.V, .int .i64 0]) ∧ Below W.heap.size W w')) (cg : ∀ W, Calls Try.prog 14 #[n.V] W fun e w' => e = .returned (.int .i64 fl) ∧ Below W.heap.size W w') (cd : ∀ W, Calls Try.prog 16 #[n.V] W fun e w' => e = .returned (.int .i64 1) ∧ Below W.heap.size W w') : Calls Try.prog 4 #[c.V, x.V, .int .i64 car, .int .i64 fl] w (Yes w true) := by
  have CN := Lib.hid cn; clear cn
  have CA := Lib.hid ca; clear ca
  have CL := Lib.hid cl; clear cl
  have CW := Lib.hid awake_any
  have CB := Lib.hid cb; clear cb
  have CE := Lib.hid ce; clear ce
  have d1 : decide (fl < 1) = false := (by simp; omega); have d2 : decide (c.get 0 < fl) = false := (by simp; omega)
  clear h1 h2
  have CI := Lib.hid ci; clear ci
  have CG := Lib.hid cg; clear cg
  have CD := Lib.hid cd; clear cd
  have HT := Lib.hid ht; have DL := Lib.hid d9; have HT3 := Lib.hid hx3; have HM5 := Lib.hid hm5; have HM4 := Lib.hid hm4; have HM3 := Lib.hid hm3; have HM2 := Lib.hid hm2; clear ht d9 hx3 hm5 hm4 hm3 hm2
  have HDUO := Lib.hid (Duo.new w c x)
  go_enter Try.func4, Try.ntmps4
  go_upto_region 1 with fail
  obtain ⟨W0, hW⟩ : ∃ W, (w.alloc (.cells c.cells 24)).alloc (.cells x.cells 26) = W := ⟨_, rfl⟩
  rw [hW] at HDUO ⊢; clear hW
  generalize w.heap.size + 1 = pX at HDUO ⊢
  generalize w.heap.size = pC at HDUO ⊢
  have HC := Lib.hid HDUO.out.cat; have HX := Lib.hid HDUO.out.at_; have BW := Lib.hid HDUO.out.bel; clear HDUO
  go_wp2_with fail
  refine (CW.out _).mono ?_
  rintro e v0 ⟨rfl, hb⟩
  have HC := Lib.hid (HC.out.step hb)
  have HX := Lib.hid (HX.out.step hb)
  have BW := Lib.hid (BW.out.trans (hb.mono BW.out.size)); clear hb
  go_wp2_with (first | ((with_reducible apply wpList_load_cat (h := HC.out)); exact rfl; exact rfl; exact rfl) | ((with_reducible apply wpList_load_kat (h := HX.out)); exact rfl; exact rfl; exact rfl))
  refine (CN.out _).mono ?_
  rintro e v1 ⟨rfl, hb⟩
  have HC := Lib.hid (HC.out.step hb)
  have HX := Lib.hid (HX.out.step hb)
  have BW := Lib.hid (BW.out.trans (hb.mono BW.out.size)); clear hb
  have HY := Lib.hid (KAt.new v1 y); have hb := below_new v1 (.cells y.cells 26)
  have HC := Lib.hid (HC.out.step hb)
  have HX := Lib.hid (HX.out.step hb)
  have BW := Lib.hid (BW.out.trans (hb.mono BW.out.size))
  go_upto_region 4 with ((with_reducible apply wpList_store_knew (c := y)); exact rfl; exact rfl; exact rfl; exact rfl)
  obtain ⟨V1, hW⟩ : ∃ W, v1.alloc (.cells y.cells 26) = W := ⟨_, rfl⟩
  rw [hW] at HC HX HY BW ⊢; clear hW hb
  generalize v1.heap.size = pY at HY ⊢
  go_wp2_with (first | ((with_reducible apply wpList_load_cat (h := HC.out)); exact rfl; exact rfl; exact rfl) | ((with_reducible apply wpList_load_kat (h := HY.out)); exact rfl; exact rfl; exact rfl))
  refine (CA.out _).mono ?_
  rintro e v2 ⟨rfl, hb⟩
  have HC := Lib.hid (HC.out.step hb)
  have HX := Lib.hid (HX.out.step hb)
  have HY := Lib.hid (HY.out.step hb)
  have BW := Lib.hid (BW.out.trans (hb.mono BW.out.size)); clear hb
  have HA := Lib.hid (KAt.new v2 a); have hb := below_new v2 (.cells a.cells 26)
  have HC := Lib.hid (HC.out.step hb)
  have HX := Lib.hid (HX.out.step hb)
  have HY := Lib.hid (HY.out.step hb)
  have BW := Lib.hid (BW.out.trans (hb.mono BW.out.size))
  go_upto_region 7 with ((with_reducible apply wpList_store_knew (c := a)); exact rfl; exact rfl; exact rfl; exact rfl)
  obtain ⟨V2, hW⟩ : ∃ W, v2.alloc (.cells a.cells 26) = W := ⟨_, rfl⟩
  rw [hW] at HC HX HY HA BW ⊢; clear hW hb
  generalize v2.heap.size = pA at HA ⊢
  go_wp2_with (first | ((with_reducible apply wpList_load_cat (h := HC.out)); exact rfl; exact rfl; exact rfl) | ((with_reducible apply wpList_load_kat (h := HA.out)); exact rfl; exact rfl; exact rfl))
  refine (CL.out _).mono ?_
  rintro e v3 ⟨rfl, hb⟩
  have HC := Lib.hid (HC.out.step hb)
  have HX := Lib.hid (HX.out.step hb)
  have HY := Lib.hid (HY.out.step hb)
  have HA := Lib.hid (HA.out.step hb)
  have BW := Lib.hid (BW.out.trans (hb.mono BW.out.size)); clear hb
  have HL := Lib.hid (KAt.new v3 y); have hb := below_new v3 (.cells y.cells 26)
  have HC := Lib.hid (HC.out.step hb)
  have HX := Lib.hid (HX.out.step hb)
  have HY := Lib.hid (HY.out.step hb)
  have HA := Lib.hid (HA.out.step hb)
  have BW := Lib.hid (BW.out.trans (hb.mono BW.out.size))
  go_upto_region 10 with ((with_reducible apply wpList_store_knew (c := y)); exact rfl; exact rfl; exact rfl; exact rfl)
  obtain ⟨V3, hW⟩ : ∃ W, v3.alloc (.cells y.cells 26) = W := ⟨_, rfl⟩
  rw [hW] at HC HX HY HA HL BW ⊢; clear hW hb
  generalize v3.heap.size = pL at HL ⊢
  have c0 := HC.out.get (k := 0) (by omega)
  generalize c.get 0 = fs at *
  have HQ : Hid ((!K.beq y y) = false) := Lib.hid (by rw [K.beq_self]; rfl)
  go_upto_region 14 with (first | ((with_reducible apply wpList_load_kat (h := HL.out)); exact rfl; exact rfl; exact rfl) | ((with_reducible apply wpList_load_kat (h := HY.out)); exact rfl; exact rfl; exact rfl) | ((with_reducible apply wpList_neq_kat (c := y) (d := y) (hb := HQ.out)); exact rfl; exact rfl; exact rfl; exact rfl))
  clear c0
  go_wp2_with ((with_reducible apply wpList_load_kat (h := HA.out)); exact rfl; exact rfl; exact rfl)
  refine (CB.out _).mono ?_
  rintro e v4 ⟨rfl, hb⟩
  have HC := Lib.hid (HC.out.step hb)
  have HX := Lib.hid (HX.out.step hb)
  have HY := Lib.hid (HY.out.step hb)
  have HA := Lib.hid (HA.out.step hb)
  have HL := Lib.hid (HL.out.step hb)
  have BW := Lib.hid (BW.out.trans (hb.mono BW.out.size)); clear hb
  have HB := Lib.hid (KAt.new v4 b); have hb := below_new v4 (.cells b.cells 26)
  have HC := Lib.hid (HC.out.step hb)
  have HX := Lib.hid (HX.out.step hb)
  have HY := Lib.hid (HY.out.step hb)
  have HA := Lib.hid (HA.out.step hb)
  have HL := Lib.hid (HL.out.step hb)
  have BW := Lib.hid (BW.out.trans (hb.mono BW.out.size))
  go_upto_region 15 with ((with_reducible apply wpList_store_knew (c := b)); exact rfl; exact rfl; exact rfl; exact rfl)
  obtain ⟨V4, hW⟩ : ∃ W, v4.alloc (.cells b.cells 26) = W := ⟨_, rfl⟩
  rw [hW] at HC HX HY HA HL HB BW ⊢; clear hW hb
  generalize v4.heap.size = pB at HB ⊢
  go_wp2_with (first | ((with_reducible apply wpList_load_cat (h := HC.out)); exact rfl; exact rfl; exact rfl) | ((with_reducible apply wpList_load_kat (h := HB.out)); exact rfl; exact rfl; exact rfl))
  refine (CE.out _).mono ?_
  rintro e v5 ⟨rfl, hb⟩
  have HC := Lib.hid (HC.out.step hb)
  have HX := Lib.hid (HX.out.step hb)
  have HY := Lib.hid (HY.out.step hb)
  have HA := Lib.hid (HA.out.step hb)
  have HL := Lib.hid (HL.out.step hb)
  have HB := Lib.hid (HB.out.step hb)
  have BW := Lib.hid (BW.out.trans (hb.mono BW.out.size)); clear hb
  have HM := Lib.hid (KAt.new v5 m); have hb := below_new v5 (.cells m.cells 26)
  have HC := Lib.hid (HC.out.step hb)
  have HX := Lib.hid (HX.out.step hb)
  have HY := Lib.hid (HY.out.step hb)
  have HA := Lib.hid (HA.out.step hb)
  have HL := Lib.hid (HL.out.step hb)
  have HB := Lib.hid (HB.out.step hb)
  have BW := Lib.hid (BW.out.trans (hb.mono BW.out.size))
  go_upto_region 18 with ((with_reducible apply wpList_store_knew (c := m)); exact rfl; exact rfl; exact rfl; exact rfl)
  obtain ⟨V5, hW⟩ : ∃ W, v5.alloc (.cells m.cells 26) = W := ⟨_, rfl⟩
  rw [hW] at HC HX HY HA HL HB HM BW ⊢; clear hW hb
  generalize v5.heap.size = pM at HM ⊢
  have d3 : decide (fl = t) = false := (by simpa using HT.out); have q3 : (fl == t) = false := (by simpa using HT.out); have n3 : (fl != t) = true := (by simpa using HT.out)
  have k3 := HX.out.get3
  rw [HT3.out] at k3
  go_upto_region 22 with fail
  clear k3
  go_wp2_with (first | ((with_reducible apply wpList_load_cat (h := HC.out)); exact rfl; exact rfl; exact rfl) | ((with_reducible apply wpList_load_kat (h := HM.out)); exact rfl; exact rfl; exact rfl))
  refine (CI.out _).mono ?_
  rintro e v6 ⟨rfl, hb⟩
  have HC := Lib.hid (HC.out.step hb)
  have HX := Lib.hid (HX.out.step hb)
  have HY := Lib.hid (HY.out.step hb)
  have HA := Lib.hid (HA.out.step hb)
  have HL := Lib.hid (HL.out.step hb)
  have HB := Lib.hid (HB.out.step hb)
  have HM := Lib.hid (HM.out.step hb)
  have BW := Lib.hid (BW.out.trans (hb.mono BW.out.size)); clear hb
  have HN := Lib.hid (KAt.new v6 n); have hb := below_new v6 (.cells n.cells 26)
  have HC := Lib.hid (HC.out.step hb)
  have HX := Lib.hid (HX.out.step hb)
  have HY := Lib.hid (HY.out.step hb)
  have HA := Lib.hid (HA.out.step hb)
  have HL := Lib.hid (HL.out.step hb)
  have HB := Lib.hid (HB.out.step hb)
  have HM := Lib.hid (HM.out.step hb)
  have BW := Lib.hid (BW.out.trans (hb.mono BW.out.size))
  go_upto_region 23 with ((with_reducible apply wpList_store_knew (c := n)); exact rfl; exact rfl; exact rfl; exact rfl)
  obtain ⟨V6, hW⟩ : ∃ W, v6.alloc (.cells n.cells 26) = W := ⟨_, rfl⟩
  rw [hW] at HC HX HY HA HL HB HM HN BW ⊢; clear hW hb
  generalize v6.heap.size = pN at HN ⊢
  clear d3 q3 n3 d1 d2
  refine AnyOrder.region_kinds2 41 [.eq (ptr pM 5), .eq (.int .i64 1), .eq (.bool true), .eq (.bool true), .eq (ptr pM 2), .eq (.int .i64 fl), .eq (.int .i64 fl), .eq (.bool true), .eq (.bool true), .eq (.bool true), .eq (ptr pM 3), .eq (.int .i64 t), .eq (ptr pX 3), .eq (.int .i64 t), .eq (.bool true), .eq (.bool true), .eq (.bool true), .eq (ptr pM 4), .eq (.int .i64 0), .eq (.bool true), .eq (.bool true), .eq (.bool true), .eq (.int .i64 0), .eq (.bool true), .eq (.bool true), .eq (.bool true), .eq (n.V), .eq (.int .i64 fl), .eq (.int .i64 fl), .eq (.bool true), .eq (.bool true), .eq (.bool true), .eq (n.V), .eq (.int .i64 1), .eq (.bool true), .eq (ptr pX 3), .eq (.int .i64 t), .eq (.int .i64 fl), .eq (.bool true), .eq (.bool true), .eq (.bool true)] (fun wx => Below V6.heap.size V6 wx) (by kernel_rfl) (by kernel_rfl) rfl (by kernel_rfl) (below_drewN (Below.refl _ _) 1) (fun p _ _ hp => by simp at hp) ?_ ?_
  · intro i o listed a1 w2 hin ho st hl hdep
    match i, ho with
    | 0, ho => (injection ho with ho; subst ho; have ec : ∀ v, a1.eval (.const v) = v := fun _ => rfl; have ef : ∀ f, a1.eval (.func f) = .func (.func f) #[] #[] := fun _ => rfl; have e0 : a1.eval (.tmp 17) = ptr pM 0 := st.old hl 17 (by kernel_rfl); exact AnyOrder.step_value rfl (AnyOrder.wanted_none rfl) (ptr pM 5) (by generalize a1.eval = ρ at ec ef e0 ⊢; simp [execOp, ec, ef, e0, IntWalk.i64_left, go_sem]) st.inv (Below.refl _ _) rfl)
    | 1, ho => (injection ho with ho; subst ho; have ec : ∀ v, a1.eval (.const v) = v := fun _ => rfl; have ef : ∀ f, a1.eval (.func f) = .func (.func f) #[] #[] := fun _ => rfl; have e0 : a1.eval (.tmp 103) = ptr pM 5 := st.done 0 103 (hdep ⟨0, .data⟩ (by simp) rfl) rfl; exact AnyOrder.step_value rfl (AnyOrder.wanted_none rfl) (.int .i64 1) (by generalize a1.eval = ρ at ec ef e0 ⊢; simp [execOp, ec, ef, e0, IntWalk.i64_left, (show _ = some (Value.int IntKind.i64 1) from ((HM.out.step st.inv).get5.trans (by rw [HM5.out]))), go_sem]) st.inv (Below.refl _ _) rfl)
    | 2, ho => (injection ho with ho; subst ho; have ec : ∀ v, a1.eval (.const v) = v := fun _ => rfl; have ef : ∀ f, a1.eval (.func f) = .func (.func f) #[] #[] := fun _ => rfl; have e0 : a1.eval (.tmp 104) = .int .i64 1 := st.done 1 104 (hdep ⟨1, .data⟩ (by simp) rfl) rfl; exact AnyOrder.step_value rfl (AnyOrder.wanted_none rfl) (.bool true) (by generalize a1.eval = ρ at ec ef e0 ⊢; simp [execOp, ec, ef, e0, IntWalk.i64_left, go_sem]) st.inv (Below.refl _ _) rfl)
    | 3, ho => (injection ho with ho; subst ho; have ec : ∀ v, a1.eval (.const v) = v := fun _ => rfl; have ef : ∀ f, a1.eval (.func f) = .func (.func f) #[] #[] := fun _ => rfl; have e0 : a1.eval (.tmp 105) = .bool true := st.done 2 105 (hdep ⟨2, .data⟩ (by simp) rfl) rfl; exact AnyOrder.step_value rfl (AnyOrder.wanted_none rfl) (.bool true) (AnyOrder.run_move e0) st.inv (Below.refl _ _) rfl)
    | 4, ho => (injection ho with ho; subst ho; have ec : ∀ v, a1.eval (.const v) = v := fun _ => rfl; have ef : ∀ f, a1.eval (.func f) = .func (.func f) #[] #[] := fun _ => rfl; have e0 : a1.eval (.tmp 17) = ptr pM 0 := st.old hl 17 (by kernel_rfl); have eg : a1.eval (.tmp 106) = .bool true := st.done 3 106 (hdep ⟨3, .guard⟩ (by simp) rfl) rfl; exact AnyOrder.step_value rfl ((AnyOrder.wanted_of rfl rfl eg).trans rfl) (ptr pM 2) (by generalize a1.eval = ρ at ec ef e0 ⊢; simp [execOp, ec, ef, e0, IntWalk.i64_left, go_sem]) st.inv (Below.refl _ _) rfl)
    | 5, ho => (injection ho with ho; subst ho; have ec : ∀ v, a1.eval (.const v) = v := fun _ => rfl; have ef : ∀ f, a1.eval (.func f) = .func (.func f) #[] #[] := fun _ => rfl; have e0 : a1.eval (.tmp 107) = ptr pM 2 := st.done 4 107 (hdep ⟨4, .data⟩ (by simp) rfl) rfl; have eg : a1.eval (.tmp 106) = .bool true := st.done 3 106 (hdep ⟨3, .guard⟩ (by simp) rfl) rfl; exact AnyOrder.step_value rfl ((AnyOrder.wanted_of rfl rfl eg).trans rfl) (.int .i64 fl) (by generalize a1.eval = ρ at ec ef e0 ⊢; simp [execOp, ec, ef, e0, IntWalk.i64_left, (show _ = some (Value.int IntKind.i64 fl) from ((HM.out.step st.inv).get2.trans (by rw [HM2.out]))), go_sem]) st.inv (Below.refl _ _) rfl)
    | 6, ho => (injection ho with ho; subst ho; have ec : ∀ v, a1.eval (.const v) = v := fun _ => rfl; have ef : ∀ f, a1.eval (.func f) = .func (.func f) #[] #[] := fun _ => rfl; have e0 : a1.eval (.tmp 3) = .int .i64 fl := st.old hl 3 (by kernel_rfl); have eg : a1.eval (.tmp 106) = .bool true := st.done 3 106 (hdep ⟨3, .guard⟩ (by simp) rfl) rfl; exact AnyOrder.step_value rfl ((AnyOrder.wanted_of rfl rfl eg).trans rfl) (.int .i64 fl) (AnyOrder.run_move e0) st.inv (Below.refl _ _) rfl)
    | 7, ho => (injection ho with ho; subst ho; have ec : ∀ v, a1.eval (.const v) = v := fun _ => rfl; have ef : ∀ f, a1.eval (.func f) = .func (.func f) #[] #[] := fun _ => rfl; have e0 : a1.eval (.tmp 108) = .int .i64 fl := st.done 5 108 (hdep ⟨5, .data⟩ (by simp) rfl) rfl; have e1 : a1.eval (.tmp 109) = .int .i64 fl := st.done 6 109 (hdep ⟨6, .data⟩ (by simp) rfl) rfl; have eg : a1.eval (.tmp 106) = .bool true := st.done 3 106 (hdep ⟨3, .guard⟩ (by simp) rfl) rfl; exact AnyOrder.step_value rfl ((AnyOrder.wanted_of rfl rfl eg).trans rfl) (.bool true) (by generalize a1.eval = ρ at ec ef e0 e1 ⊢; simp [execOp, ec, ef, e0, e1, IntWalk.i64_left, go_sem]) st.inv (Below.refl _ _) rfl)
    | 8, ho => (injection ho with ho; subst ho; have ec : ∀ v, a1.eval (.const v) = v := fun _ => rfl; have ef : ∀ f, a1.eval (.func f) = .func (.func f) #[] #[] := fun _ => rfl; have e0 : a1.eval (.tmp 106) = .bool true := st.done 3 106 (hdep ⟨3, .data⟩ (by simp) rfl) rfl; have e1 : a1.eval (.tmp 110) = .bool true := st.done 7 110 (hdep ⟨7, .data⟩ (by simp) rfl) rfl; exact AnyOrder.step_value rfl (AnyOrder.wanted_none rfl) (.bool true) (by generalize a1.eval = ρ at ec ef e0 e1 ⊢; simp [execOp, ec, ef, e0, e1, IntWalk.i64_left, go_sem]) st.inv (Below.refl _ _) rfl)
    | 9, ho => (injection ho with ho; subst ho; have ec : ∀ v, a1.eval (.const v) = v := fun _ => rfl; have ef : ∀ f, a1.eval (.func f) = .func (.func f) #[] #[] := fun _ => rfl; have e0 : a1.eval (.tmp 111) = .bool true := st.done 8 111 (hdep ⟨8, .data⟩ (by simp) rfl) rfl; exact AnyOrder.step_value rfl (AnyOrder.wanted_none rfl) (.bool true) (AnyOrder.run_move e0) st.inv (Below.refl _ _) rfl)
    | 10, ho => (injection ho with ho; subst ho; have ec : ∀ v, a1.eval (.const v) = v := fun _ => rfl; have ef : ∀ f, a1.eval (.func f) = .func (.func f) #[] #[] := fun _ => rfl; have e0 : a1.eval (.tmp 17) = ptr pM 0 := st.old hl 17 (by kernel_rfl); have eg : a1.eval (.tmp 112) = .bool true := st.done 9 112 (hdep ⟨9, .guard⟩ (by simp) rfl) rfl; exact AnyOrder.step_value rfl ((AnyOrder.wanted_of rfl rfl eg).trans rfl) (ptr pM 3) (by generalize a1.eval = ρ at ec ef e0 ⊢; simp [execOp, ec, ef, e0, IntWalk.i64_left, go_sem]) st.inv (Below.refl _ _) rfl)
    | 11, ho => (injection ho with ho; subst ho; have ec : ∀ v, a1.eval (.const v) = v := fun _ => rfl; have ef : ∀ f, a1.eval (.func f) = .func (.func f) #[] #[] := fun _ => rfl; have e0 : a1.eval (.tmp 113) = ptr pM 3 := st.done 10 113 (hdep ⟨10, .data⟩ (by simp) rfl) rfl; have eg : a1.eval (.tmp 112) = .bool true := st.done 9 112 (hdep ⟨9, .guard⟩ (by simp) rfl) rfl; exact AnyOrder.step_value rfl ((AnyOrder.wanted_of rfl rfl eg).trans rfl) (.int .i64 t) (by generalize a1.eval = ρ at ec ef e0 ⊢; simp [execOp, ec, ef, e0, IntWalk.i64_left, (show _ = some (Value.int IntKind.i64 t) from ((HM.out.step st.inv).get3.trans (by rw [HM3.out]))), go_sem]) st.inv (Below.refl _ _) rfl)
    | 12, ho => (injection ho with ho; subst ho; have ec : ∀ v, a1.eval (.const v) = v := fun _ => rfl; have ef : ∀ f, a1.eval (.func f) = .func (.func f) #[] #[] := fun _ => rfl; have e0 : a1.eval (.tmp 5) = ptr pX 0 := st.old hl 5 (by kernel_rfl); have eg : a1.eval (.tmp 112) = .bool true := st.done 9 112 (hdep ⟨9, .guard⟩ (by simp) rfl) rfl; exact AnyOrder.step_value rfl ((AnyOrder.wanted_of rfl rfl eg).trans rfl) (ptr pX 3) (by generalize a1.eval = ρ at ec ef e0 ⊢; simp [execOp, ec, ef, e0, IntWalk.i64_left, go_sem]) st.inv (Below.refl _ _) rfl)
    | 13, ho => (injection ho with ho; subst ho; have ec : ∀ v, a1.eval (.const v) = v := fun _ => rfl; have ef : ∀ f, a1.eval (.func f) = .func (.func f) #[] #[] := fun _ => rfl; have e0 : a1.eval (.tmp 115) = ptr pX 3 := st.done 12 115 (hdep ⟨12, .data⟩ (by simp) rfl) rfl; have eg : a1.eval (.tmp 112) = .bool true := st.done 9 112 (hdep ⟨9, .guard⟩ (by simp) rfl) rfl; exact AnyOrder.step_value rfl ((AnyOrder.wanted_of rfl rfl eg).trans rfl) (.int .i64 t) (by generalize a1.eval = ρ at ec ef e0 ⊢; simp [execOp, ec, ef, e0, IntWalk.i64_left, (show _ = some (Value.int IntKind.i64 t) from ((HX.out.step st.inv).get3.trans (by rw [HT3.out]))), go_sem]) st.inv (Below.refl _ _) rfl)
    | 14, ho => (injection ho with ho; subst ho; have ec : ∀ v, a1.eval (.const v) = v := fun _ => rfl; have ef : ∀ f, a1.eval (.func f) = .func (.func f) #[] #[] := fun _ => rfl; have e0 : a1.eval (.tmp 114) = .int .i64 t := st.done 11 114 (hdep ⟨11, .data⟩ (by simp) rfl) rfl; have e1 : a1.eval (.tmp 116) = .int .i64 t := st.done 13 116 (hdep ⟨13, .data⟩ (by simp) rfl) rfl; have eg : a1.eval (.tmp 112) = .bool true := st.done 9 112 (hdep ⟨9, .guard⟩ (by simp) rfl) rfl; exact AnyOrder.step_value rfl ((AnyOrder.wanted_of rfl rfl eg).trans rfl) (.bool true) (by generalize a1.eval = ρ at ec ef e0 e1 ⊢; simp [execOp, ec, ef, e0, e1, IntWalk.i64_left, go_sem]) st.inv (Below.refl _ _) rfl)
    | 15, ho => (injection ho with ho; subst ho; have ec : ∀ v, a1.eval (.const v) = v := fun _ => rfl; have ef : ∀ f, a1.eval (.func f) = .func (.func f) #[] #[] := fun _ => rfl; have e0 : a1.eval (.tmp 112) = .bool true := st.done 9 112 (hdep ⟨9, .data⟩ (by simp) rfl) rfl; have e1 : a1.eval (.tmp 117) = .bool true := st.done 14 117 (hdep ⟨14, .data⟩ (by simp) rfl) rfl; exact AnyOrder.step_value rfl (AnyOrder.wanted_none rfl) (.bool true) (by generalize a1.eval = ρ at ec ef e0 e1 ⊢; simp [execOp, ec, ef, e0, e1, IntWalk.i64_left, go_sem]) st.inv (Below.refl _ _) rfl)
    | 16, ho => (injection ho with ho; subst ho; have ec : ∀ v, a1.eval (.const v) = v := fun _ => rfl; have ef : ∀ f, a1.eval (.func f) = .func (.func f) #[] #[] := fun _ => rfl; have e0 : a1.eval (.tmp 118) = .bool true := st.done 15 118 (hdep ⟨15, .data⟩ (by simp) rfl) rfl; exact AnyOrder.step_value rfl (AnyOrder.wanted_none rfl) (.bool true) (AnyOrder.run_move e0) st.inv (Below.refl _ _) rfl)
    | 17, ho => (injection ho with ho; subst ho; have ec : ∀ v, a1.eval (.const v) = v := fun _ => rfl; have ef : ∀ f, a1.eval (.func f) = .func (.func f) #[] #[] := fun _ => rfl; have e0 : a1.eval (.tmp 17) = ptr pM 0 := st.old hl 17 (by kernel_rfl); have eg : a1.eval (.tmp 119) = .bool true := st.done 16 119 (hdep ⟨16, .guard⟩ (by simp) rfl) rfl; exact AnyOrder.step_value rfl ((AnyOrder.wanted_of rfl rfl eg).trans rfl) (ptr pM 4) (by generalize a1.eval = ρ at ec ef e0 ⊢; simp [execOp, ec, ef, e0, IntWalk.i64_left, go_sem]) st.inv (Below.refl _ _) rfl)
    | 18, ho => (injection ho with ho; subst ho; have ec : ∀ v, a1.eval (.const v) = v := fun _ => rfl; have ef : ∀ f, a1.eval (.func f) = .func (.func f) #[] #[] := fun _ => rfl; have e0 : a1.eval (.tmp 120) = ptr pM 4 := st.done 17 120 (hdep ⟨17, .data⟩ (by simp) rfl) rfl; have eg : a1.eval (.tmp 119) = .bool true := st.done 16 119 (hdep ⟨16, .guard⟩ (by simp) rfl) rfl; exact AnyOrder.step_value rfl ((AnyOrder.wanted_of rfl rfl eg).trans rfl) (.int .i64 0) (by generalize a1.eval = ρ at ec ef e0 ⊢; simp [execOp, ec, ef, e0, IntWalk.i64_left, (show _ = some (Value.int IntKind.i64 0) from ((HM.out.step st.inv).get4.trans (by rw [HM4.out]))), go_sem]) st.inv (Below.refl _ _) rfl)
    | 19, ho => (injection ho with ho; subst ho; have ec : ∀ v, a1.eval (.const v) = v := fun _ => rfl; have ef : ∀ f, a1.eval (.func f) = .func (.func f) #[] #[] := fun _ => rfl; have e0 : a1.eval (.tmp 121) = .int .i64 0 := st.done 18 121 (hdep ⟨18, .data⟩ (by simp) rfl) rfl; have eg : a1.eval (.tmp 119) = .bool true := st.done 16 119 (hdep ⟨16, .guard⟩ (by simp) rfl) rfl; exact AnyOrder.step_value rfl ((AnyOrder.wanted_of rfl rfl eg).trans rfl) (.bool true) (by generalize a1.eval = ρ at ec ef e0 ⊢; simp [execOp, ec, ef, e0, IntWalk.i64_left, go_sem]) st.inv (Below.refl _ _) rfl)
    | 20, ho => (injection ho with ho; subst ho; have ec : ∀ v, a1.eval (.const v) = v := fun _ => rfl; have ef : ∀ f, a1.eval (.func f) = .func (.func f) #[] #[] := fun _ => rfl; have e0 : a1.eval (.tmp 119) = .bool true := st.done 16 119 (hdep ⟨16, .data⟩ (by simp) rfl) rfl; have e1 : a1.eval (.tmp 122) = .bool true := st.done 19 122 (hdep ⟨19, .data⟩ (by simp) rfl) rfl; exact AnyOrder.step_value rfl (AnyOrder.wanted_none rfl) (.bool true) (by generalize a1.eval = ρ at ec ef e0 e1 ⊢; simp [execOp, ec, ef, e0, e1, IntWalk.i64_left, go_sem]) st.inv (Below.refl _ _) rfl)
    | 21, ho => (injection ho with ho; subst ho; have ec : ∀ v, a1.eval (.const v) = v := fun _ => rfl; have ef : ∀ f, a1.eval (.func f) = .func (.func f) #[] #[] := fun _ => rfl; have e0 : a1.eval (.tmp 123) = .bool true := st.done 20 123 (hdep ⟨20, .data⟩ (by simp) rfl) rfl; exact AnyOrder.step_value rfl (AnyOrder.wanted_none rfl) (.bool true) (AnyOrder.run_move e0) st.inv (Below.refl _ _) rfl)
    | 22, ho => (injection ho with ho; subst ho; have ec : ∀ v, a1.eval (.const v) = v := fun _ => rfl; have ef : ∀ f, a1.eval (.func f) = .func (.func f) #[] #[] := fun _ => rfl; have e0 : a1.eval (.tmp 20) = .int .i64 0 := st.old hl 20 (by kernel_rfl); have eg : a1.eval (.tmp 124) = .bool true := st.done 21 124 (hdep ⟨21, .guard⟩ (by simp) rfl) rfl; exact AnyOrder.step_value rfl ((AnyOrder.wanted_of rfl rfl eg).trans rfl) (.int .i64 0) (AnyOrder.run_move e0) st.inv (Below.refl _ _) rfl)
    | 23, ho => (injection ho with ho; subst ho; have ec : ∀ v, a1.eval (.const v) = v := fun _ => rfl; have ef : ∀ f, a1.eval (.func f) = .func (.func f) #[] #[] := fun _ => rfl; have e0 : a1.eval (.tmp 125) = .int .i64 0 := st.done 22 125 (hdep ⟨22, .data⟩ (by simp) rfl) rfl; have eg : a1.eval (.tmp 124) = .bool true := st.done 21 124 (hdep ⟨21, .guard⟩ (by simp) rfl) rfl; exact AnyOrder.step_value rfl ((AnyOrder.wanted_of rfl rfl eg).trans rfl) (.bool true) (by generalize a1.eval = ρ at ec ef e0 ⊢; simp [execOp, ec, ef, e0, IntWalk.i64_left, go_sem]) st.inv (Below.refl _ _) rfl)
    | 24, ho => (injection ho with ho; subst ho; have ec : ∀ v, a1.eval (.const v) = v := fun _ => rfl; have ef : ∀ f, a1.eval (.func f) = .func (.func f) #[] #[] := fun _ => rfl; have e0 : a1.eval (.tmp 124) = .bool true := st.done 21 124 (hdep ⟨21, .data⟩ (by simp) rfl) rfl; have e1 : a1.eval (.tmp 126) = .bool true := st.done 23 126 (hdep ⟨23, .data⟩ (by simp) rfl) rfl; exact AnyOrder.step_value rfl (AnyOrder.wanted_none rfl) (.bool true) (by generalize a1.eval = ρ at ec ef e0 e1 ⊢; simp [execOp, ec, ef, e0, e1, IntWalk.i64_left, go_sem]) st.inv (Below.refl _ _) rfl)
    | 25, ho => (injection ho with ho; subst ho; have ec : ∀ v, a1.eval (.const v) = v := fun _ => rfl; have ef : ∀ f, a1.eval (.func f) = .func (.func f) #[] #[] := fun _ => rfl; have e0 : a1.eval (.tmp 127) = .bool true := st.done 24 127 (hdep ⟨24, .data⟩ (by simp) rfl) rfl; exact AnyOrder.step_value rfl (AnyOrder.wanted_none rfl) (.bool true) (AnyOrder.run_move e0) st.inv (Below.refl _ _) rfl)
    | 26, ho => (injection ho with ho; subst ho; have ec : ∀ v, a1.eval (.const v) = v := fun _ => rfl; have ef : ∀ f, a1.eval (.func f) = .func (.func f) #[] #[] := fun _ => rfl; have e0 : a1.eval (.tmp 19) = ptr pN 0 := st.old hl 19 (by kernel_rfl); have eg : a1.eval (.tmp 128) = .bool true := st.done 25 128 (hdep ⟨25, .guard⟩ (by simp) rfl) rfl; exact AnyOrder.step_value rfl ((AnyOrder.wanted_of rfl rfl eg).trans rfl) (n.V) (run_load_k e0 (HN.out.step st.inv)) st.inv (Below.refl _ _) rfl)
    | 27, ho => (injection ho with ho; subst ho; have ec : ∀ v, a1.eval (.const v) = v := fun _ => rfl; have ef : ∀ f, a1.eval (.func f) = .func (.func f) #[] #[] := fun _ => rfl; have e0 : a1.eval (.tmp 129) = n.V := st.done 26 129 (hdep ⟨26, .data⟩ (by simp) rfl) rfl; have eg : a1.eval (.tmp 128) = .bool true := st.done 25 128 (hdep ⟨25, .chain⟩ (by simp) rfl) rfl; exact AnyOrder.step_call rfl ((AnyOrder.wanted_of rfl rfl eg).trans rfl) 14 #[n.V] (by generalize a1.eval = ρ at ec ef e0 ⊢; simp [execOp, ec, ef, e0, go_sem]) ((CG.out _).mono (fun e w3 h => by obtain ⟨rfl, hb⟩ := h; exact ⟨_, rfl, st.inv.trans (hb.mono st.inv.size), hb, rfl⟩)))
    | 28, ho => (injection ho with ho; subst ho; have ec : ∀ v, a1.eval (.const v) = v := fun _ => rfl; have ef : ∀ f, a1.eval (.func f) = .func (.func f) #[] #[] := fun _ => rfl; have e0 : a1.eval (.tmp 3) = .int .i64 fl := st.old hl 3 (by kernel_rfl); have eg : a1.eval (.tmp 128) = .bool true := st.done 25 128 (hdep ⟨25, .guard⟩ (by simp) rfl) rfl; exact AnyOrder.step_value rfl ((AnyOrder.wanted_of rfl rfl eg).trans rfl) (.int .i64 fl) (AnyOrder.run_move e0) st.inv (Below.refl _ _) rfl)
    | 29, ho => (injection ho with ho; subst ho; have ec : ∀ v, a1.eval (.const v) = v := fun _ => rfl; have ef : ∀ f, a1.eval (.func f) = .func (.func f) #[] #[] := fun _ => rfl; have e0 : a1.eval (.tmp 130) = .int .i64 fl := st.done 27 130 (hdep ⟨27, .data⟩ (by simp) rfl) rfl; have e1 : a1.eval (.tmp 131) = .int .i64 fl := st.done 28 131 (hdep ⟨28, .data⟩ (by simp) rfl) rfl; have eg : a1.eval (.tmp 128) = .bool true := st.done 25 128 (hdep ⟨25, .guard⟩ (by simp) rfl) rfl; exact AnyOrder.step_value rfl ((AnyOrder.wanted_of rfl rfl eg).trans rfl) (.bool true) (by generalize a1.eval = ρ at ec ef e0 e1 ⊢; simp [execOp, ec, ef, e0, e1, IntWalk.i64_left, go_sem]) st.inv (Below.refl _ _) rfl)
    | 30, ho => (injection ho with ho; subst ho; have ec : ∀ v, a1.eval (.const v) = v := fun _ => rfl; have ef : ∀ f, a1.eval (.func f) = .func (.func f) #[] #[] := fun _ => rfl; have e0 : a1.eval (.tmp 128) = .bool true := st.done 25 128 (hdep ⟨25, .data⟩ (by simp) rfl) rfl; have e1 : a1.eval (.tmp 132) = .bool true := st.done 29 132 (hdep ⟨29, .data⟩ (by simp) rfl) rfl; exact AnyOrder.step_value rfl (AnyOrder.wanted_none rfl) (.bool true) (by generalize a1.eval = ρ at ec ef e0 e1 ⊢; simp [execOp, ec, ef, e0, e1, IntWalk.i64_left, go_sem]) st.inv (Below.refl _ _) rfl)
    | 31, ho => (injection ho with ho; subst ho; have ec : ∀ v, a1.eval (.const v) = v := fun _ => rfl; have ef : ∀ f, a1.eval (.func f) = .func (.func f) #[] #[] := fun _ => rfl; have e0 : a1.eval (.tmp 133) = .bool true := st.done 30 133 (hdep ⟨30, .data⟩ (by simp) rfl) rfl; exact AnyOrder.step_value rfl (AnyOrder.wanted_none rfl) (.bool true) (AnyOrder.run_move e0) st.inv (Below.refl _ _) rfl)
    | 32, ho => (injection ho with ho; subst ho; have ec : ∀ v, a1.eval (.const v) = v := fun _ => rfl; have ef : ∀ f, a1.eval (.func f) = .func (.func f) #[] #[] := fun _ => rfl; have e0 : a1.eval (.tmp 19) = ptr pN 0 := st.old hl 19 (by kernel_rfl); have eg : a1.eval (.tmp 134) = .bool true := st.done 31 134 (hdep ⟨31, .guard⟩ (by simp) rfl) rfl; exact AnyOrder.step_value rfl ((AnyOrder.wanted_of rfl rfl eg).trans rfl) (n.V) (run_load_k e0 (HN.out.step st.inv)) st.inv (Below.refl _ _) rfl)
    | 33, ho => (injection ho with ho; subst ho; have ec : ∀ v, a1.eval (.const v) = v := fun _ => rfl; have ef : ∀ f, a1.eval (.func f) = .func (.func f) #[] #[] := fun _ => rfl; have e0 : a1.eval (.tmp 135) = n.V := st.done 32 135 (hdep ⟨32, .data⟩ (by simp) rfl) rfl; have eg : a1.eval (.tmp 134) = .bool true := st.done 31 134 (hdep ⟨31, .chain⟩ (by simp) rfl) rfl; exact AnyOrder.step_call rfl ((AnyOrder.wanted_of rfl rfl eg).trans rfl) 16 #[n.V] (by generalize a1.eval = ρ at ec ef e0 ⊢; simp [execOp, ec, ef, e0, go_sem]) ((CD.out _).mono (fun e w3 h => by obtain ⟨rfl, hb⟩ := h; exact ⟨_, rfl, st.inv.trans (hb.mono st.inv.size), hb, rfl⟩)))
    | 34, ho => (injection ho with ho; subst ho; have ec : ∀ v, a1.eval (.const v) = v := fun _ => rfl; have ef : ∀ f, a1.eval (.func f) = .func (.func f) #[] #[] := fun _ => rfl; have e0 : a1.eval (.tmp 136) = .int .i64 1 := st.done 33 136 (hdep ⟨33, .data⟩ (by simp) rfl) rfl; have eg : a1.eval (.tmp 134) = .bool true := st.done 31 134 (hdep ⟨31, .guard⟩ (by simp) rfl) rfl; exact AnyOrder.step_value rfl ((AnyOrder.wanted_of rfl rfl eg).trans rfl) (.bool true) (by generalize a1.eval = ρ at ec ef e0 ⊢; simp [execOp, ec, ef, e0, IntWalk.i64_left, go_sem]) st.inv (Below.refl _ _) rfl)
    | 35, ho => (injection ho with ho; subst ho; have ec : ∀ v, a1.eval (.const v) = v := fun _ => rfl; have ef : ∀ f, a1.eval (.func f) = .func (.func f) #[] #[] := fun _ => rfl; have e0 : a1.eval (.tmp 5) = ptr pX 0 := st.old hl 5 (by kernel_rfl); have eg : a1.eval (.tmp 134) = .bool true := st.done 31 134 (hdep ⟨31, .guard⟩ (by simp) rfl) rfl; exact AnyOrder.step_value rfl ((AnyOrder.wanted_of rfl rfl eg).trans rfl) (ptr pX 3) (by generalize a1.eval = ρ at ec ef e0 ⊢; simp [execOp, ec, ef, e0, IntWalk.i64_left, go_sem]) st.inv (Below.refl _ _) rfl)
    | 36, ho => (injection ho with ho; subst ho; have ec : ∀ v, a1.eval (.const v) = v := fun _ => rfl; have ef : ∀ f, a1.eval (.func f) = .func (.func f) #[] #[] := fun _ => rfl; have e0 : a1.eval (.tmp 138) = ptr pX 3 := st.done 35 138 (hdep ⟨35, .data⟩ (by simp) rfl) rfl; have eg : a1.eval (.tmp 134) = .bool true := st.done 31 134 (hdep ⟨31, .guard⟩ (by simp) rfl) rfl; exact AnyOrder.step_value rfl ((AnyOrder.wanted_of rfl rfl eg).trans rfl) (.int .i64 t) (by generalize a1.eval = ρ at ec ef e0 ⊢; simp [execOp, ec, ef, e0, IntWalk.i64_left, (show _ = some (Value.int IntKind.i64 t) from ((HX.out.step st.inv).get3.trans (by rw [HT3.out]))), go_sem]) st.inv (Below.refl _ _) rfl)
    | 37, ho => (injection ho with ho; subst ho; have ec : ∀ v, a1.eval (.const v) = v := fun _ => rfl; have ef : ∀ f, a1.eval (.func f) = .func (.func f) #[] #[] := fun _ => rfl; have e0 : a1.eval (.tmp 3) = .int .i64 fl := st.old hl 3 (by kernel_rfl); have eg : a1.eval (.tmp 134) = .bool true := st.done 31 134 (hdep ⟨31, .guard⟩ (by simp) rfl) rfl; exact AnyOrder.step_value rfl ((AnyOrder.wanted_of rfl rfl eg).trans rfl) (.int .i64 fl) (AnyOrder.run_move e0) st.inv (Below.refl _ _) rfl)
    | 38, ho => (injection ho with ho; subst ho; have ec : ∀ v, a1.eval (.const v) = v := fun _ => rfl; have ef : ∀ f, a1.eval (.func f) = .func (.func f) #[] #[] := fun _ => rfl; have e0 : a1.eval (.tmp 139) = .int .i64 t := st.done 36 139 (hdep ⟨36, .data⟩ (by simp) rfl) rfl; have e1 : a1.eval (.tmp 140) = .int .i64 fl := st.done 37 140 (hdep ⟨37, .data⟩ (by simp) rfl) rfl; have eg : a1.eval (.tmp 134) = .bool true := st.done 31 134 (hdep ⟨31, .guard⟩ (by simp) rfl) rfl; exact AnyOrder.step_value rfl ((AnyOrder.wanted_of rfl rfl eg).trans rfl) (.bool true) (by generalize a1.eval = ρ at ec ef e0 e1 ⊢; simp [execOp, ec, ef, e0, e1, IntWalk.i64_left, DL.out, go_sem]) st.inv (Below.refl _ _) rfl)
    | 39, ho => (injection ho with ho; subst ho; have ec : ∀ v, a1.eval (.const v) = v := fun _ => rfl; have ef : ∀ f, a1.eval (.func f) = .func (.func f) #[] #[] := fun _ => rfl; have e0 : a1.eval (.tmp 137) = .bool true := st.done 34 137 (hdep ⟨34, .data⟩ (by simp) rfl) rfl; have e1 : a1.eval (.tmp 141) = .bool true := st.done 38 141 (hdep ⟨38, .data⟩ (by simp) rfl) rfl; have eg : a1.eval (.tmp 134) = .bool true := st.done 31 134 (hdep ⟨31, .guard⟩ (by simp) rfl) rfl; exact AnyOrder.step_value rfl ((AnyOrder.wanted_of rfl rfl eg).trans rfl) (.bool true) (by generalize a1.eval = ρ at ec ef e0 e1 ⊢; simp [execOp, ec, ef, e0, e1, IntWalk.i64_left, go_sem]) st.inv (Below.refl _ _) rfl)
    | 40, ho => (injection ho with ho; subst ho; have ec : ∀ v, a1.eval (.const v) = v := fun _ => rfl; have ef : ∀ f, a1.eval (.func f) = .func (.func f) #[] #[] := fun _ => rfl; have e0 : a1.eval (.tmp 134) = .bool true := st.done 31 134 (hdep ⟨31, .data⟩ (by simp) rfl) rfl; have e1 : a1.eval (.tmp 142) = .bool true := st.done 39 142 (hdep ⟨39, .data⟩ (by simp) rfl) rfl; exact AnyOrder.step_value rfl (AnyOrder.wanted_none rfl) (.bool true) (by generalize a1.eval = ρ at ec ef e0 e1 ⊢; simp [execOp, ec, ef, e0, e1, IntWalk.i64_left, go_sem]) st.inv (Below.refl _ _) rfl)
    | n + 41, ho => exact absurd hin (by omega)
  · intro w2 hJ
    simp only [AnyOrder.finK, List.take_succ_cons, List.take_zero, List.drop_succ_cons, List.drop_zero, Act.put, List.setIfInBounds_toArray, List.set_cons_zero, List.set_cons_succ]
    go_wp2_with fail
    go_ret
    exact ⟨rfl, BW.out.trans (hJ.mono BW.out.size)⟩
set_option maxRecDepth 100000 in
set_option maxHeartbeats 3200000 in
theorem cb_on_false (c : Cfg) (x y a b m n : K) (t car fl : Int) (w : World) (h1 : 1 ≤ fl) (h2 : fl ≤ c.get 0) (ht : fl ≠ t) (d9 : decide (fl < t) = false) (hx3 : x.dto = t) (hm5 : m.st = 1) (hm4 : m.car = 0) (hm3 : m.dto = t) (hm2 : m.frm = fl) (cn : (∀ W, Calls Try.prog 6 #[c.V, x.V, .int .i64 7, .int .i64 8, .int .i64 9] W fun e w' => e = .returned (.tuple #[y.V, .int .i64 0]) ∧ Below W.heap.size W w')) (ca : (∀ W, Calls Try.prog 7 #[c.V, y.V, .int .i64 car] W fun e w' => e = .returned (.tuple #[a.V, .int .i64 0]) ∧ Below W.heap.size W w')) (cl : (∀ W, Calls Try.prog 8 #[c.V, a.V, .int .i64 fl] W fun e w' => e = .returned (.tuple #[y.V, .int .i64 0]) ∧ Below W.heap.size W w')) (cb : (∀ W, Calls Try.prog 9 #[a.V] W fun e w' => e = .returned (.tuple #[b.V, .int .i64 0]) ∧ Below W.heap.size W w')) (ce : (∀ W, Calls Try.prog 8 #[c.V, b.V, .int .i64 fl] W fun e w' => e = .returned (.tuple #[m.V, .int .i64 0]) ∧ Below W.heap.size W w')) (ci : (∀ W, Calls Try.prog 7 #[c.V, m.V, .int .i64 car] W fun e w' => e = .returned (.tuple #[n.V, .int .i64 0]) ∧ Below W.heap.size W w')) (cg : ∀ W, Calls Try.prog 14 #[n.V] W fun e w' => e = .returned (.int .i64 fl) ∧ Below W.heap.size W w') (cd : ∀ W, Calls Try.prog 16 #[n.V] W fun e w' => e = .returned (.int .i64 (-1)) ∧ Below W.heap.size W w') : Calls Try.prog 4 #[c.V, x.V, .int .i64 car, .int .i64 fl] w (Yes w true) := by
  have CN := Lib.hid cn; clear cn
  have CA := Lib.hid ca; clear ca
  have CL := Lib.hid cl; clear cl
  have CW := Lib.hid awake_any
  have CB := Lib.hid cb; clear cb
  have CE := Lib.hid ce; clear ce
  have d1 : decide (fl < 1) = false := (by simp; omega); have d2 : decide (c.get 0 < fl) = false := (by simp; omega)
  clear h1 h2
  have CI := Lib.hid ci; clear ci
  have CG := Lib.hid cg; clear cg
  have CD := Lib.hid cd; clear cd
  have HT := Lib.hid ht; have DL := Lib.hid d9; have HT3 := Lib.hid hx3; have HM5 := Lib.hid hm5; have HM4 := Lib.hid hm4; have HM3 := Lib.hid hm3; have HM2 := Lib.hid hm2; clear ht d9 hx3 hm5 hm4 hm3 hm2
  have HDUO := Lib.hid (Duo.new w c x)
  go_enter Try.func4, Try.ntmps4
  go_upto_region 1 with fail
  obtain ⟨W0, hW⟩ : ∃ W, (w.alloc (.cells c.cells 24)).alloc (.cells x.cells 26) = W := ⟨_, rfl⟩
  rw [hW] at HDUO ⊢; clear hW
  generalize w.heap.size + 1 = pX at HDUO ⊢
  generalize w.heap.size = pC at HDUO ⊢
  have HC := Lib.hid HDUO.out.cat; have HX := Lib.hid HDUO.out.at_; have BW := Lib.hid HDUO.out.bel; clear HDUO
  go_wp2_with fail
  refine (CW.out _).mono ?_
  rintro e v0 ⟨rfl, hb⟩
  have HC := Lib.hid (HC.out.step hb)
  have HX := Lib.hid (HX.out.step hb)
  have BW := Lib.hid (BW.out.trans (hb.mono BW.out.size)); clear hb
  go_wp2_with (first | ((with_reducible apply wpList_load_cat (h := HC.out)); exact rfl; exact rfl; exact rfl) | ((with_reducible apply wpList_load_kat (h := HX.out)); exact rfl; exact rfl; exact rfl))
  refine (CN.out _).mono ?_
  rintro e v1 ⟨rfl, hb⟩
  have HC := Lib.hid (HC.out.step hb)
  have HX := Lib.hid (HX.out.step hb)
  have BW := Lib.hid (BW.out.trans (hb.mono BW.out.size)); clear hb
  have HY := Lib.hid (KAt.new v1 y); have hb := below_new v1 (.cells y.cells 26)
  have HC := Lib.hid (HC.out.step hb)
  have HX := Lib.hid (HX.out.step hb)
  have BW := Lib.hid (BW.out.trans (hb.mono BW.out.size))
  go_upto_region 4 with ((with_reducible apply wpList_store_knew (c := y)); exact rfl; exact rfl; exact rfl; exact rfl)
  obtain ⟨V1, hW⟩ : ∃ W, v1.alloc (.cells y.cells 26) = W := ⟨_, rfl⟩
  rw [hW] at HC HX HY BW ⊢; clear hW hb
  generalize v1.heap.size = pY at HY ⊢
  go_wp2_with (first | ((with_reducible apply wpList_load_cat (h := HC.out)); exact rfl; exact rfl; exact rfl) | ((with_reducible apply wpList_load_kat (h := HY.out)); exact rfl; exact rfl; exact rfl))
  refine (CA.out _).mono ?_
  rintro e v2 ⟨rfl, hb⟩
  have HC := Lib.hid (HC.out.step hb)
  have HX := Lib.hid (HX.out.step hb)
  have HY := Lib.hid (HY.out.step hb)
  have BW := Lib.hid (BW.out.trans (hb.mono BW.out.size)); clear hb
  have HA := Lib.hid (KAt.new v2 a); have hb := below_new v2 (.cells a.cells 26)
  have HC := Lib.hid (HC.out.step hb)
  have HX := Lib.hid (HX.out.step hb)
  have HY := Lib.hid (HY.out.step hb)
  have BW := Lib.hid (BW.out.trans (hb.mono BW.out.size))
  go_upto_region 7 with ((with_reducible apply wpList_store_knew (c := a)); exact rfl; exact rfl; exact rfl; exact rfl)
  obtain ⟨V2, hW⟩ : ∃ W, v2.alloc (.cells a.cells 26) = W := ⟨_, rfl⟩
  rw [hW] at HC HX HY HA BW ⊢; clear hW hb
  generalize v2.heap.size = pA at HA ⊢
  go_wp2_with (first | ((with_reducible apply wpList_load_cat (h := HC.out)); exact rfl; exact rfl; exact rfl) | ((with_reducible apply wpList_load_kat (h := HA.out)); exact rfl; exact rfl; exact rfl))
  refine (CL.out _).mono ?_
  rintro e v3 ⟨rfl, hb⟩
  have HC := Lib.hid (HC.out.step hb)
  have HX := Lib.hid (HX.out.step hb)
  have HY := Lib.hid (HY.out.step hb)
  have HA := Lib.hid (HA.out.step hb)
  have BW := Lib.hid (BW.out.trans (hb.mono BW.out.size)); clear hb
  have HL := Lib.hid (KAt.new v3 y); have hb := below_new v3 (.cells y.cells 26)
  have HC := Lib.hid (HC.out.step hb)
  have HX := Lib.hid (HX.out.step hb)
  have HY := Lib.hid (HY.out.step hb)
  have HA := Lib.hid (HA.out.step hb)
  have BW := Lib.hid (BW.out.trans (hb.mono BW.out.size))
  go_upto_region 10 with ((with_reducible apply wpList_store_knew (c := y)); exact rfl; exact rfl; exact rfl; exact rfl)
  obtain ⟨V3, hW⟩ : ∃ W, v3.alloc (.cells y.cells 26) = W := ⟨_, rfl⟩
  rw [hW] at HC HX HY HA HL BW ⊢; clear hW hb
  generalize v3.heap.size = pL at HL ⊢
  have c0 := HC.out.get (k := 0) (by omega)
  generalize c.get 0 = fs at *
  have HQ : Hid ((!K.beq y y) = false) := Lib.hid (by rw [K.beq_self]; rfl)
  go_upto_region 14 with (first | ((with_reducible apply wpList_load_kat (h := HL.out)); exact rfl; exact rfl; exact rfl) | ((with_reducible apply wpList_load_kat (h := HY.out)); exact rfl; exact rfl; exact rfl) | ((with_reducible apply wpList_neq_kat (c := y) (d := y) (hb := HQ.out)); exact rfl; exact rfl; exact rfl; exact rfl))
  clear c0
  go_wp2_with ((with_reducible apply wpList_load_kat (h := HA.out)); exact rfl; exact rfl; exact rfl)
  refine (CB.out _).mono ?_
  rintro e v4 ⟨rfl, hb⟩
  have HC := Lib.hid (HC.out.step hb)
  have HX := Lib.hid (HX.out.step hb)
  have HY := Lib.hid (HY.out.step hb)
  have HA := Lib.hid (HA.out.step hb)
  have HL := Lib.hid (HL.out.step hb)
  have BW := Lib.hid (BW.out.trans (hb.mono BW.out.size)); clear hb
  have HB := Lib.hid (KAt.new v4 b); have hb := below_new v4 (.cells b.cells 26)
  have HC := Lib.hid (HC.out.step hb)
  have HX := Lib.hid (HX.out.step hb)
  have HY := Lib.hid (HY.out.step hb)
  have HA := Lib.hid (HA.out.step hb)
  have HL := Lib.hid (HL.out.step hb)
  have BW := Lib.hid (BW.out.trans (hb.mono BW.out.size))
  go_upto_region 15 with ((with_reducible apply wpList_store_knew (c := b)); exact rfl; exact rfl; exact rfl; exact rfl)
  obtain ⟨V4, hW⟩ : ∃ W, v4.alloc (.cells b.cells 26) = W := ⟨_, rfl⟩
  rw [hW] at HC HX HY HA HL HB BW ⊢; clear hW hb
  generalize v4.heap.size = pB at HB ⊢
  go_wp2_with (first | ((with_reducible apply wpList_load_cat (h := HC.out)); exact rfl; exact rfl; exact rfl) | ((with_reducible apply wpList_load_kat (h := HB.out)); exact rfl; exact rfl; exact rfl))
  refine (CE.out _).mono ?_
  rintro e v5 ⟨rfl, hb⟩
  have HC := Lib.hid (HC.out.step hb)
  have HX := Lib.hid (HX.out.step hb)
  have HY := Lib.hid (HY.out.step hb)
  have HA := Lib.hid (HA.out.step hb)
  have HL := Lib.hid (HL.out.step hb)
  have HB := Lib.hid (HB.out.step hb)
  have BW := Lib.hid (BW.out.trans (hb.mono BW.out.size)); clear hb
  have HM := Lib.hid (KAt.new v5 m); have hb := below_new v5 (.cells m.cells 26)
  have HC := Lib.hid (HC.out.step hb)
  have HX := Lib.hid (HX.out.step hb)
  have HY := Lib.hid (HY.out.step hb)
  have HA := Lib.hid (HA.out.step hb)
  have HL := Lib.hid (HL.out.step hb)
  have HB := Lib.hid (HB.out.step hb)
  have BW := Lib.hid (BW.out.trans (hb.mono BW.out.size))
  go_upto_region 18 with ((with_reducible apply wpList_store_knew (c := m)); exact rfl; exact rfl; exact rfl; exact rfl)
  obtain ⟨V5, hW⟩ : ∃ W, v5.alloc (.cells m.cells 26) = W := ⟨_, rfl⟩
  rw [hW] at HC HX HY HA HL HB HM BW ⊢; clear hW hb
  generalize v5.heap.size = pM at HM ⊢
  have d3 : decide (fl = t) = false := (by simpa using HT.out); have q3 : (fl == t) = false := (by simpa using HT.out); have n3 : (fl != t) = true := (by simpa using HT.out)
  have k3 := HX.out.get3
  rw [HT3.out] at k3
  go_upto_region 22 with fail
  clear k3
  go_wp2_with (first | ((with_reducible apply wpList_load_cat (h := HC.out)); exact rfl; exact rfl; exact rfl) | ((with_reducible apply wpList_load_kat (h := HM.out)); exact rfl; exact rfl; exact rfl))
  refine (CI.out _).mono ?_
  rintro e v6 ⟨rfl, hb⟩
  have HC := Lib.hid (HC.out.step hb)
  have HX := Lib.hid (HX.out.step hb)
  have HY := Lib.hid (HY.out.step hb)
  have HA := Lib.hid (HA.out.step hb)
  have HL := Lib.hid (HL.out.step hb)
  have HB := Lib.hid (HB.out.step hb)
  have HM := Lib.hid (HM.out.step hb)
  have BW := Lib.hid (BW.out.trans (hb.mono BW.out.size)); clear hb
  have HN := Lib.hid (KAt.new v6 n); have hb := below_new v6 (.cells n.cells 26)
  have HC := Lib.hid (HC.out.step hb)
  have HX := Lib.hid (HX.out.step hb)
  have HY := Lib.hid (HY.out.step hb)
  have HA := Lib.hid (HA.out.step hb)
  have HL := Lib.hid (HL.out.step hb)
  have HB := Lib.hid (HB.out.step hb)
  have HM := Lib.hid (HM.out.step hb)
  have BW := Lib.hid (BW.out.trans (hb.mono BW.out.size))
  go_upto_region 23 with ((with_reducible apply wpList_store_knew (c := n)); exact rfl; exact rfl; exact rfl; exact rfl)
  obtain ⟨V6, hW⟩ : ∃ W, v6.alloc (.cells n.cells 26) = W := ⟨_, rfl⟩
  rw [hW] at HC HX HY HA HL HB HM HN BW ⊢; clear hW hb
  generalize v6.heap.size = pN at HN ⊢
  clear d3 q3 n3 d1 d2
  refine AnyOrder.region_kinds2 41 [.eq (ptr pM 5), .eq (.int .i64 1), .eq (.bool true), .eq (.bool true), .eq (ptr pM 2), .eq (.int .i64 fl), .eq (.int .i64 fl), .eq (.bool true), .eq (.bool true), .eq (.bool true), .eq (ptr pM 3), .eq (.int .i64 t), .eq (ptr pX 3), .eq (.int .i64 t), .eq (.bool true), .eq (.bool true), .eq (.bool true), .eq (ptr pM 4), .eq (.int .i64 0), .eq (.bool true), .eq (.bool true), .eq (.bool true), .eq (.int .i64 0), .eq (.bool true), .eq (.bool true), .eq (.bool true), .eq (n.V), .eq (.int .i64 fl), .eq (.int .i64 fl), .eq (.bool true), .eq (.bool true), .eq (.bool true), .eq (n.V), .eq (.int .i64 (-1)), .eq (.bool false), .eq (ptr pX 3), .eq (.int .i64 t), .eq (.int .i64 fl), .eq (.bool false), .eq (.bool true), .eq (.bool true)] (fun wx => Below V6.heap.size V6 wx) (by kernel_rfl) (by kernel_rfl) rfl (by kernel_rfl) (below_drewN (Below.refl _ _) 1) (fun p _ _ hp => by simp at hp) ?_ ?_
  · intro i o listed a1 w2 hin ho st hl hdep
    match i, ho with
    | 0, ho => (injection ho with ho; subst ho; have ec : ∀ v, a1.eval (.const v) = v := fun _ => rfl; have ef : ∀ f, a1.eval (.func f) = .func (.func f) #[] #[] := fun _ => rfl; have e0 : a1.eval (.tmp 17) = ptr pM 0 := st.old hl 17 (by kernel_rfl); exact AnyOrder.step_value rfl (AnyOrder.wanted_none rfl) (ptr pM 5) (by generalize a1.eval = ρ at ec ef e0 ⊢; simp [execOp, ec, ef, e0, IntWalk.i64_left, go_sem]) st.inv (Below.refl _ _) rfl)
    | 1, ho => (injection ho with ho; subst ho; have ec : ∀ v, a1.eval (.const v) = v := fun _ => rfl; have ef : ∀ f, a1.eval (.func f) = .func (.func f) #[] #[] := fun _ => rfl; have e0 : a1.eval (.tmp 103) = ptr pM 5 := st.done 0 103 (hdep ⟨0, .data⟩ (by simp) rfl) rfl; exact AnyOrder.step_value rfl (AnyOrder.wanted_none rfl) (.int .i64 1) (by generalize a1.eval = ρ at ec ef e0 ⊢; simp [execOp, ec, ef, e0, IntWalk.i64_left, (show _ = some (Value.int IntKind.i64 1) from ((HM.out.step st.inv).get5.trans (by rw [HM5.out]))), go_sem]) st.inv (Below.refl _ _) rfl)
    | 2, ho => (injection ho with ho; subst ho; have ec : ∀ v, a1.eval (.const v) = v := fun _ => rfl; have ef : ∀ f, a1.eval (.func f) = .func (.func f) #[] #[] := fun _ => rfl; have e0 : a1.eval (.tmp 104) = .int .i64 1 := st.done 1 104 (hdep ⟨1, .data⟩ (by simp) rfl) rfl; exact AnyOrder.step_value rfl (AnyOrder.wanted_none rfl) (.bool true) (by generalize a1.eval = ρ at ec ef e0 ⊢; simp [execOp, ec, ef, e0, IntWalk.i64_left, go_sem]) st.inv (Below.refl _ _) rfl)
    | 3, ho => (injection ho with ho; subst ho; have ec : ∀ v, a1.eval (.const v) = v := fun _ => rfl; have ef : ∀ f, a1.eval (.func f) = .func (.func f) #[] #[] := fun _ => rfl; have e0 : a1.eval (.tmp 105) = .bool true := st.done 2 105 (hdep ⟨2, .data⟩ (by simp) rfl) rfl; exact AnyOrder.step_value rfl (AnyOrder.wanted_none rfl) (.bool true) (AnyOrder.run_move e0) st.inv (Below.refl _ _) rfl)
    | 4, ho => (injection ho with ho; subst ho; have ec : ∀ v, a1.eval (.const v) = v := fun _ => rfl; have ef : ∀ f, a1.eval (.func f) = .func (.func f) #[] #[] := fun _ => rfl; have e0 : a1.eval (.tmp 17) = ptr pM 0 := st.old hl 17 (by kernel_rfl); have eg : a1.eval (.tmp 106) = .bool true := st.done 3 106 (hdep ⟨3, .guard⟩ (by simp) rfl) rfl; exact AnyOrder.step_value rfl ((AnyOrder.wanted_of rfl rfl eg).trans rfl) (ptr pM 2) (by generalize a1.eval = ρ at ec ef e0 ⊢; simp [execOp, ec, ef, e0, IntWalk.i64_left, go_sem]) st.inv (Below.refl _ _) rfl)
    | 5, ho => (injection ho with ho; subst ho; have ec : ∀ v, a1.eval (.const v) = v := fun _ => rfl; have ef : ∀ f, a1.eval (.func f) = .func (.func f) #[] #[] := fun _ => rfl; have e0 : a1.eval (.tmp 107) = ptr pM 2 := st.done 4 107 (hdep ⟨4, .data⟩ (by simp) rfl) rfl; have eg : a1.eval (.tmp 106) = .bool true := st.done 3 106 (hdep ⟨3, .guard⟩ (by simp) rfl) rfl; exact AnyOrder.step_value rfl ((AnyOrder.wanted_of rfl rfl eg).trans rfl) (.int .i64 fl) (by generalize a1.eval = ρ at ec ef e0 ⊢; simp [execOp, ec, ef, e0, IntWalk.i64_left, (show _ = some (Value.int IntKind.i64 fl) from ((HM.out.step st.inv).get2.trans (by rw [HM2.out]))), go_sem]) st.inv (Below.refl _ _) rfl)
    | 6, ho => (injection ho with ho; subst ho; have ec : ∀ v, a1.eval (.const v) = v := fun _ => rfl; have ef : ∀ f, a1.eval (.func f) = .func (.func f) #[] #[] := fun _ => rfl; have e0 : a1.eval (.tmp 3) = .int .i64 fl := st.old hl 3 (by kernel_rfl); have eg : a1.eval (.tmp 106) = .bool true := st.done 3 106 (hdep ⟨3, .guard⟩ (by simp) rfl) rfl; exact AnyOrder.step_value rfl ((AnyOrder.wanted_of rfl rfl eg).trans rfl) (.int .i64 fl) (AnyOrder.run_move e0) st.inv (Below.refl _ _) rfl)
    | 7, ho => (injection ho with ho; subst ho; have ec : ∀ v, a1.eval (.const v) = v := fun _ => rfl; have ef : ∀ f, a1.eval (.func f) = .func (.func f) #[] #[] := fun _ => rfl; have e0 : a1.eval (.tmp 108) = .int .i64 fl := st.done 5 108 (hdep ⟨5, .data⟩ (by simp) rfl) rfl; have e1 : a1.eval (.tmp 109) = .int .i64 fl := st.done 6 109 (hdep ⟨6, .data⟩ (by simp) rfl) rfl; have eg : a1.eval (.tmp 106) = .bool true := st.done 3 106 (hdep ⟨3, .guard⟩ (by simp) rfl) rfl; exact AnyOrder.step_value rfl ((AnyOrder.wanted_of rfl rfl eg).trans rfl) (.bool true) (by generalize a1.eval = ρ at ec ef e0 e1 ⊢; simp [execOp, ec, ef, e0, e1, IntWalk.i64_left, go_sem]) st.inv (Below.refl _ _) rfl)
    | 8, ho => (injection ho with ho; subst ho; have ec : ∀ v, a1.eval (.const v) = v := fun _ => rfl; have ef : ∀ f, a1.eval (.func f) = .func (.func f) #[] #[] := fun _ => rfl; have e0 : a1.eval (.tmp 106) = .bool true := st.done 3 106 (hdep ⟨3, .data⟩ (by simp) rfl) rfl; have e1 : a1.eval (.tmp 110) = .bool true := st.done 7 110 (hdep ⟨7, .data⟩ (by simp) rfl) rfl; exact AnyOrder.step_value rfl (AnyOrder.wanted_none rfl) (.bool true) (by generalize a1.eval = ρ at ec ef e0 e1 ⊢; simp [execOp, ec, ef, e0, e1, IntWalk.i64_left, go_sem]) st.inv (Below.refl _ _) rfl)
    | 9, ho => (injection ho with ho; subst ho; have ec : ∀ v, a1.eval (.const v) = v := fun _ => rfl; have ef : ∀ f, a1.eval (.func f) = .func (.func f) #[] #[] := fun _ => rfl; have e0 : a1.eval (.tmp 111) = .bool true := st.done 8 111 (hdep ⟨8, .data⟩ (by simp) rfl) rfl; exact AnyOrder.step_value rfl (AnyOrder.wanted_none rfl) (.bool true) (AnyOrder.run_move e0) st.inv (Below.refl _ _) rfl)
    | 10, ho => (injection ho with ho; subst ho; have ec : ∀ v, a1.eval (.const v) = v := fun _ => rfl; have ef : ∀ f, a1.eval (.func f) = .func (.func f) #[] #[] := fun _ => rfl; have e0 : a1.eval (.tmp 17) = ptr pM 0 := st.old hl 17 (by kernel_rfl); have eg : a1.eval (.tmp 112) = .bool true := st.done 9 112 (hdep ⟨9, .guard⟩ (by simp) rfl) rfl; exact AnyOrder.step_value rfl ((AnyOrder.wanted_of rfl rfl eg).trans rfl) (ptr pM 3) (by generalize a1.eval = ρ at ec ef e0 ⊢; simp [execOp, ec, ef, e0, IntWalk.i64_left, go_sem]) st.inv (Below.refl _ _) rfl)
    | 11, ho => (injection ho with ho; subst ho; have ec : ∀ v, a1.eval (.const v) = v := fun _ => rfl; have ef : ∀ f, a1.eval (.func f) = .func (.func f) #[] #[] := fun _ => rfl; have e0 : a1.eval (.tmp 113) = ptr pM 3 := st.done 10 113 (hdep ⟨10, .data⟩ (by simp) rfl) rfl; have eg : a1.eval (.tmp 112) = .bool true := st.done 9 112 (hdep ⟨9, .guard⟩ (by simp) rfl) rfl; exact AnyOrder.step_value rfl ((AnyOrder.wanted_of rfl rfl eg).trans rfl) (.int .i64 t) (by generalize a1.eval = ρ at ec ef e0 ⊢; simp [execOp, ec, ef, e0, IntWalk.i64_left, (show _ = some (Value.int IntKind.i64 t) from ((HM.out.step st.inv).get3.trans (by rw [HM3.out]))), go_sem]) st.inv (Below.refl _ _) rfl)
    | 12, ho => (injection ho with ho; subst ho; have ec : ∀ v, a1.eval (.const v) = v := fun _ => rfl; have ef : ∀ f, a1.eval (.func f) = .func (.func f) #[] #[] := fun _ => rfl; have e0 : a1.eval (.tmp 5) = ptr pX 0 := st.old hl 5 (by kernel_rfl); have eg : a1.eval (.tmp 112) = .bool true := st.done 9 112 (hdep ⟨9, .guard⟩ (by simp) rfl) rfl; exact AnyOrder.step_value rfl ((AnyOrder.wanted_of rfl rfl eg).trans rfl) (ptr pX 3) (by generalize a1.eval = ρ at ec ef e0 ⊢; simp [execOp, ec, ef, e0, IntWalk.i64_left, go_sem]) st.inv (Below.refl _ _) rfl)
    | 13, ho => (injection ho with ho; subst ho; have ec : ∀ v, a1.eval (.const v) = v := fun _ => rfl; have ef : ∀ f, a1.eval (.func f) = .func (.func f) #[] #[] := fun _ => rfl; have e0 : a1.eval (.tmp 115) = ptr pX 3 := st.done 12 115 (hdep ⟨12, .data⟩ (by simp) rfl) rfl; have eg : a1.eval (.tmp 112) = .bool true := st.done 9 112 (hdep ⟨9, .guard⟩ (by simp) rfl) rfl; exact AnyOrder.step_value rfl ((AnyOrder.wanted_of rfl rfl eg).trans rfl) (.int .i64 t) (by generalize a1.eval = ρ at ec ef e0 ⊢; simp [execOp, ec, ef, e0, IntWalk.i64_left, (show _ = some (Value.int IntKind.i64 t) from ((HX.out.step st.inv).get3.trans (by rw [HT3.out]))), go_sem]) st.inv (Below.refl _ _) rfl)
    | 14, ho => (injection ho with ho; subst ho; have ec : ∀ v, a1.eval (.const v) = v := fun _ => rfl; have ef : ∀ f, a1.eval (.func f) = .func (.func f) #[] #[] := fun _ => rfl; have e0 : a1.eval (.tmp 114) = .int .i64 t := st.done 11 114 (hdep ⟨11, .data⟩ (by simp) rfl) rfl; have e1 : a1.eval (.tmp 116) = .int .i64 t := st.done 13 116 (hdep ⟨13, .data⟩ (by simp) rfl) rfl; have eg : a1.eval (.tmp 112) = .bool true := st.done 9 112 (hdep ⟨9, .guard⟩ (by simp) rfl) rfl; exact AnyOrder.step_value rfl ((AnyOrder.wanted_of rfl rfl eg).trans rfl) (.bool true) (by generalize a1.eval = ρ at ec ef e0 e1 ⊢; simp [execOp, ec, ef, e0, e1, IntWalk.i64_left, go_sem]) st.inv (Below.refl _ _) rfl)
    | 15, ho => (injection ho with ho; subst ho; have ec : ∀ v, a1.eval (.const v) = v := fun _ => rfl; have ef : ∀ f, a1.eval (.func f) = .func (.func f) #[] #[] := fun _ => rfl; have e0 : a1.eval (.tmp 112) = .bool true := st.done 9 112 (hdep ⟨9, .data⟩ (by simp) rfl) rfl; have e1 : a1.eval (.tmp 117) = .bool true := st.done 14 117 (hdep ⟨14, .data⟩ (by simp) rfl) rfl; exact AnyOrder.step_value rfl (AnyOrder.wanted_none rfl) (.bool true) (by generalize a1.eval = ρ at ec ef e0 e1 ⊢; simp [execOp, ec, ef, e0, e1, IntWalk.i64_left, go_sem]) st.inv (Below.refl _ _) rfl)
    | 16, ho => (injection ho with ho; subst ho; have ec : ∀ v, a1.eval (.const v) = v := fun _ => rfl; have ef : ∀ f, a1.eval (.func f) = .func (.func f) #[] #[] := fun _ => rfl; have e0 : a1.eval (.tmp 118) = .bool true := st.done 15 118 (hdep ⟨15, .data⟩ (by simp) rfl) rfl; exact AnyOrder.step_value rfl (AnyOrder.wanted_none rfl) (.bool true) (AnyOrder.run_move e0) st.inv (Below.refl _ _) rfl)
    | 17, ho => (injection ho with ho; subst ho; have ec : ∀ v, a1.eval (.const v) = v := fun _ => rfl; have ef : ∀ f, a1.eval (.func f) = .func (.func f) #[] #[] := fun _ => rfl; have e0 : a1.eval (.tmp 17) = ptr pM 0 := st.old hl 17 (by kernel_rfl); have eg : a1.eval (.tmp 119) = .bool true := st.done 16 119 (hdep ⟨16, .guard⟩ (by simp) rfl) rfl; exact AnyOrder.step_value rfl ((AnyOrder.wanted_of rfl rfl eg).trans rfl) (ptr pM 4) (by generalize a1.eval = ρ at ec ef e0 ⊢; simp [execOp, ec, ef, e0, IntWalk.i64_left, go_sem]) st.inv (Below.refl _ _) rfl)
    | 18, ho => (injection ho with ho; subst ho; have ec : ∀ v, a1.eval (.const v) = v := fun _ => rfl; have ef : ∀ f, a1.eval (.func f) = .func (.func f) #[] #[] := fun _ => rfl; have e0 : a1.eval (.tmp 120) = ptr pM 4 := st.done 17 120 (hdep ⟨17, .data⟩ (by simp) rfl) rfl; have eg : a1.eval (.tmp 119) = .bool true := st.done 16 119 (hdep ⟨16, .guard⟩ (by simp) rfl) rfl; exact AnyOrder.step_value rfl ((AnyOrder.wanted_of rfl rfl eg).trans rfl) (.int .i64 0) (by generalize a1.eval = ρ at ec ef e0 ⊢; simp [execOp, ec, ef, e0, IntWalk.i64_left, (show _ = some (Value.int IntKind.i64 0) from ((HM.out.step st.inv).get4.trans (by rw [HM4.out]))), go_sem]) st.inv (Below.refl _ _) rfl)
    | 19, ho => (injection ho with ho; subst ho; have ec : ∀ v, a1.eval (.const v) = v := fun _ => rfl; have ef : ∀ f, a1.eval (.func f) = .func (.func f) #[] #[] := fun _ => rfl; have e0 : a1.eval (.tmp 121) = .int .i64 0 := st.done 18 121 (hdep ⟨18, .data⟩ (by simp) rfl) rfl; have eg : a1.eval (.tmp 119) = .bool true := st.done 16 119 (hdep ⟨16, .guard⟩ (by simp) rfl) rfl; exact AnyOrder.step_value rfl ((AnyOrder.wanted_of rfl rfl eg).trans rfl) (.bool true) (by generalize a1.eval = ρ at ec ef e0 ⊢; simp [execOp, ec, ef, e0, IntWalk.i64_left, go_sem]) st.inv (Below.refl _ _) rfl)
    | 20, ho => (injection ho with ho; subst ho; have ec : ∀ v, a1.eval (.const v) = v := fun _ => rfl; have ef : ∀ f, a1.eval (.func f) = .func (.func f) #[] #[] := fun _ => rfl; have e0 : a1.eval (.tmp 119) = .bool true := st.done 16 119 (hdep ⟨16, .data⟩ (by simp) rfl) rfl; have e1 : a1.eval (.tmp 122) = .bool true := st.done 19 122 (hdep ⟨19, .data⟩ (by simp) rfl) rfl; exact AnyOrder.step_value rfl (AnyOrder.wanted_none rfl) (.bool true) (by generalize a1.eval = ρ at ec ef e0 e1 ⊢; simp [execOp, ec, ef, e0, e1, IntWalk.i64_left, go_sem]) st.inv (Below.refl _ _) rfl)
    | 21, ho => (injection ho with ho; subst ho; have ec : ∀ v, a1.eval (.const v) = v := fun _ => rfl; have ef : ∀ f, a1.eval (.func f) = .func (.func f) #[] #[] := fun _ => rfl; have e0 : a1.eval (.tmp 123) = .bool true := st.done 20 123 (hdep ⟨20, .data⟩ (by simp) rfl) rfl; exact AnyOrder.step_value rfl (AnyOrder.wanted_none rfl) (.bool true) (AnyOrder.run_move e0) st.inv (Below.refl _ _) rfl)
    | 22, ho => (injection ho with ho; subst ho; have ec : ∀ v, a1.eval (.const v) = v := fun _ => rfl; have ef : ∀ f, a1.eval (.func f) = .func (.func f) #[] #[] := fun _ => rfl; have e0 : a1.eval (.tmp 20) = .int .i64 0 := st.old hl 20 (by kernel_rfl); have eg : a1.eval (.tmp 124) = .bool true := st.done 21 124 (hdep ⟨21, .guard⟩ (by simp) rfl) rfl; exact AnyOrder.step_value rfl ((AnyOrder.wanted_of rfl rfl eg).trans rfl) (.int .i64 0) (AnyOrder.run_move e0) st.inv (Below.refl _ _) rfl)
    | 23, ho => (injection ho with ho; subst ho; have ec : ∀ v, a1.eval (.const v) = v := fun _ => rfl; have ef : ∀ f, a1.eval (.func f) = .func (.func f) #[] #[] := fun _ => rfl; have e0 : a1.eval (.tmp 125) = .int .i64 0 := st.done 22 125 (hdep ⟨22, .data⟩ (by simp) rfl) rfl; have eg : a1.eval (.tmp 124) = .bool true := st.done 21 124 (hdep ⟨21, .guard⟩ (by simp) rfl) rfl; exact AnyOrder.step_value rfl ((AnyOrder.wanted_of rfl rfl eg).trans rfl) (.bool true) (by generalize a1.eval = ρ at ec ef e0 ⊢; simp [execOp, ec, ef, e0, IntWalk.i64_left, go_sem]) st.inv (Below.refl _ _) rfl)
    | 24, ho => (injection ho with ho; subst ho; have ec : ∀ v, a1.eval (.const v) = v := fun _ => rfl; have ef : ∀ f, a1.eval (.func f) = .func (.func f) #[] #[] := fun _ => rfl; have e0 : a1.eval (.tmp 124) = .bool true := st.done 21 124 (hdep ⟨21, .data⟩ (by simp) rfl) rfl; have e1 : a1.eval (.tmp 126) = .bool true := st.done 23 126 (hdep ⟨23, .data⟩ (by simp) rfl) rfl; exact AnyOrder.step_value rfl (AnyOrder.wanted_none rfl) (.bool true) (by generalize a1.eval = ρ at ec ef e0 e1 ⊢; simp [execOp, ec, ef, e0, e1, IntWalk.i64_left, go_sem]) st.inv (Below.refl _ _) rfl)
    | 25, ho => (injection ho with ho; subst ho; have ec : ∀ v, a1.eval (.const v) = v := fun _ => rfl; have ef : ∀ f, a1.eval (.func f) = .func (.func f) #[] #[] := fun _ => rfl; have e0 : a1.eval (.tmp 127) = .bool true := st.done 24 127 (hdep ⟨24, .data⟩ (by simp) rfl) rfl; exact AnyOrder.step_value rfl (AnyOrder.wanted_none rfl) (.bool true) (AnyOrder.run_move e0) st.inv (Below.refl _ _) rfl)
    | 26, ho => (injection ho with ho; subst ho; have ec : ∀ v, a1.eval (.const v) = v := fun _ => rfl; have ef : ∀ f, a1.eval (.func f) = .func (.func f) #[] #[] := fun _ => rfl; have e0 : a1.eval (.tmp 19) = ptr pN 0 := st.old hl 19 (by kernel_rfl); have eg : a1.eval (.tmp 128) = .bool true := st.done 25 128 (hdep ⟨25, .guard⟩ (by simp) rfl) rfl; exact AnyOrder.step_value rfl ((AnyOrder.wanted_of rfl rfl eg).trans rfl) (n.V) (run_load_k e0 (HN.out.step st.inv)) st.inv (Below.refl _ _) rfl)
    | 27, ho => (injection ho with ho; subst ho; have ec : ∀ v, a1.eval (.const v) = v := fun _ => rfl; have ef : ∀ f, a1.eval (.func f) = .func (.func f) #[] #[] := fun _ => rfl; have e0 : a1.eval (.tmp 129) = n.V := st.done 26 129 (hdep ⟨26, .data⟩ (by simp) rfl) rfl; have eg : a1.eval (.tmp 128) = .bool true := st.done 25 128 (hdep ⟨25, .chain⟩ (by simp) rfl) rfl; exact AnyOrder.step_call rfl ((AnyOrder.wanted_of rfl rfl eg).trans rfl) 14 #[n.V] (by generalize a1.eval = ρ at ec ef e0 ⊢; simp [execOp, ec, ef, e0, go_sem]) ((CG.out _).mono (fun e w3 h => by obtain ⟨rfl, hb⟩ := h; exact ⟨_, rfl, st.inv.trans (hb.mono st.inv.size), hb, rfl⟩)))
    | 28, ho => (injection ho with ho; subst ho; have ec : ∀ v, a1.eval (.const v) = v := fun _ => rfl; have ef : ∀ f, a1.eval (.func f) = .func (.func f) #[] #[] := fun _ => rfl; have e0 : a1.eval (.tmp 3) = .int .i64 fl := st.old hl 3 (by kernel_rfl); have eg : a1.eval (.tmp 128) = .bool true := st.done 25 128 (hdep ⟨25, .guard⟩ (by simp) rfl) rfl; exact AnyOrder.step_value rfl ((AnyOrder.wanted_of rfl rfl eg).trans rfl) (.int .i64 fl) (AnyOrder.run_move e0) st.inv (Below.refl _ _) rfl)
    | 29, ho => (injection ho with ho; subst ho; have ec : ∀ v, a1.eval (.const v) = v := fun _ => rfl; have ef : ∀ f, a1.eval (.func f) = .func (.func f) #[] #[] := fun _ => rfl; have e0 : a1.eval (.tmp 130) = .int .i64 fl := st.done 27 130 (hdep ⟨27, .data⟩ (by simp) rfl) rfl; have e1 : a1.eval (.tmp 131) = .int .i64 fl := st.done 28 131 (hdep ⟨28, .data⟩ (by simp) rfl) rfl; have eg : a1.eval (.tmp 128) = .bool true := st.done 25 128 (hdep ⟨25, .guard⟩ (by simp) rfl) rfl; exact AnyOrder.step_value rfl ((AnyOrder.wanted_of rfl rfl eg).trans rfl) (.bool true) (by generalize a1.eval = ρ at ec ef e0 e1 ⊢; simp [execOp, ec, ef, e0, e1, IntWalk.i64_left, go_sem]) st.inv (Below.refl _ _) rfl)
    | 30, ho => (injection ho with ho; subst ho; have ec : ∀ v, a1.eval (.const v) = v := fun _ => rfl; have ef : ∀ f, a1.eval (.func f) = .func (.func f) #[] #[] := fun _ => rfl; have e0 : a1.eval (.tmp 128) = .bool true := st.done 25 128 (hdep ⟨25, .data⟩ (by simp) rfl) rfl; have e1 : a1.eval (.tmp 132) = .bool true := st.done 29 132 (hdep ⟨29, .data⟩ (by simp) rfl) rfl; exact AnyOrder.step_value rfl (AnyOrder.wanted_none rfl) (.bool true) (by generalize a1.eval = ρ at ec ef e0 e1 ⊢; simp [execOp, ec, ef, e0, e1, IntWalk.i64_left, go_sem]) st.inv (Below.refl _ _) rfl)
    | 31, ho => (injection ho with ho; subst ho; have ec : ∀ v, a1.eval (.const v) = v := fun _ => rfl; have ef : ∀ f, a1.eval (.func f) = .func (.func f) #[] #[] := fun _ => rfl; have e0 : a1.eval (.tmp 133) = .bool true := st.done 30 133 (hdep ⟨30, .data⟩ (by simp) rfl) rfl; exact AnyOrder.step_value rfl (AnyOrder.wanted_none rfl) (.bool true) (AnyOrder.run_move e0) st.inv (Below.refl _ _) rfl)
    | 32, ho => (injection ho with ho; subst ho; have ec : ∀ v, a1.eval (.const v) = v := fun _ => rfl; have ef : ∀ f, a1.eval (.func f) = .func (.func f) #[] #[] := fun _ => rfl; have e0 : a1.eval (.tmp 19) = ptr pN 0 := st.old hl 19 (by kernel_rfl); have eg : a1.eval (.tmp 134) = .bool true := st.done 31 134 (hdep ⟨31, .guard⟩ (by simp) rfl) rfl; exact AnyOrder.step_value rfl ((AnyOrder.wanted_of rfl rfl eg).trans rfl) (n.V) (run_load_k e0 (HN.out.step st.inv)) st.inv (Below.refl _ _) rfl)
    | 33, ho => (injection ho with ho; subst ho; have ec : ∀ v, a1.eval (.const v) = v := fun _ => rfl; have ef : ∀ f, a1.eval (.func f) = .func (.func f) #[] #[] := fun _ => rfl; have e0 : a1.eval (.tmp 135) = n.V := st.done 32 135 (hdep ⟨32, .data⟩ (by simp) rfl) rfl; have eg : a1.eval (.tmp 134) = .bool true := st.done 31 134 (hdep ⟨31, .chain⟩ (by simp) rfl) rfl; exact AnyOrder.step_call rfl ((AnyOrder.wanted_of rfl rfl eg).trans rfl) 16 #[n.V] (by generalize a1.eval = ρ at ec ef e0 ⊢; simp [execOp, ec, ef, e0, go_sem]) ((CD.out _).mono (fun e w3 h => by obtain ⟨rfl, hb⟩ := h; exact ⟨_, rfl, st.inv.trans (hb.mono st.inv.size), hb, rfl⟩)))
    | 34, ho => (injection ho with ho; subst ho; have ec : ∀ v, a1.eval (.const v) = v := fun _ => rfl; have ef : ∀ f, a1.eval (.func f) = .func (.func f) #[] #[] := fun _ => rfl; have e0 : a1.eval (.tmp 136) = .int .i64 (-1) := st.done 33 136 (hdep ⟨33, .data⟩ (by simp) rfl) rfl; have eg : a1.eval (.tmp 134) = .bool true := st.done 31 134 (hdep ⟨31, .guard⟩ (by simp) rfl) rfl; exact AnyOrder.step_value rfl ((AnyOrder.wanted_of rfl rfl eg).trans rfl) (.bool false) (by generalize a1.eval = ρ at ec ef e0 ⊢; simp [execOp, ec, ef, e0, IntWalk.i64_left, go_sem]) st.inv (Below.refl _ _) rfl)
    | 35, ho => (injection ho with ho; subst ho; have ec : ∀ v, a1.eval (.const v) = v := fun _ => rfl; have ef : ∀ f, a1.eval (.func f) = .func (.func f) #[] #[] := fun _ => rfl; have e0 : a1.eval (.tmp 5) = ptr pX 0 := st.old hl 5 (by kernel_rfl); have eg : a1.eval (.tmp 134) = .bool true := st.done 31 134 (hdep ⟨31, .guard⟩ (by simp) rfl) rfl; exact AnyOrder.step_value rfl ((AnyOrder.wanted_of rfl rfl eg).trans rfl) (ptr pX 3) (by generalize a1.eval = ρ at ec ef e0 ⊢; simp [execOp, ec, ef, e0, IntWalk.i64_left, go_sem]) st.inv (Below.refl _ _) rfl)
    | 36, ho => (injection ho with ho; subst ho; have ec : ∀ v, a1.eval (.const v) = v := fun _ => rfl; have ef : ∀ f, a1.eval (.func f) = .func (.func f) #[] #[] := fun _ => rfl; have e0 : a1.eval (.tmp 138) = ptr pX 3 := st.done 35 138 (hdep ⟨35, .data⟩ (by simp) rfl) rfl; have eg : a1.eval (.tmp 134) = .bool true := st.done 31 134 (hdep ⟨31, .guard⟩ (by simp) rfl) rfl; exact AnyOrder.step_value rfl ((AnyOrder.wanted_of rfl rfl eg).trans rfl) (.int .i64 t) (by generalize a1.eval = ρ at ec ef e0 ⊢; simp [execOp, ec, ef, e0, IntWalk.i64_left, (show _ = some (Value.int IntKind.i64 t) from ((HX.out.step st.inv).get3.trans (by rw [HT3.out]))), go_sem]) st.inv (Below.refl _ _) rfl)
    | 37, ho => (injection ho with ho; subst ho; have ec : ∀ v, a1.eval (.const v) = v := fun _ => rfl; have ef : ∀ f, a1.eval (.func f) = .func (.func f) #[] #[] := fun _ => rfl; have e0 : a1.eval (.tmp 3) = .int .i64 fl := st.old hl 3 (by kernel_rfl); have eg : a1.eval (.tmp 134) = .bool true := st.done 31 134 (hdep ⟨31, .guard⟩ (by simp) rfl) rfl; exact AnyOrder.step_value rfl ((AnyOrder.wanted_of rfl rfl eg).trans rfl) (.int .i64 fl) (AnyOrder.run_move e0) st.inv (Below.refl _ _) rfl)
    | 38, ho => (injection ho with ho; subst ho; have ec : ∀ v, a1.eval (.const v) = v := fun _ => rfl; have ef : ∀ f, a1.eval (.func f) = .func (.func f) #[] #[] := fun _ => rfl; have e0 : a1.eval (.tmp 139) = .int .i64 t := st.done 36 139 (hdep ⟨36, .data⟩ (by simp) rfl) rfl; have e1 : a1.eval (.tmp 140) = .int .i64 fl := st.done 37 140 (hdep ⟨37, .data⟩ (by simp) rfl) rfl; have eg : a1.eval (.tmp 134) = .bool true := st.done 31 134 (hdep ⟨31, .guard⟩ (by simp) rfl) rfl; exact AnyOrder.step_value rfl ((AnyOrder.wanted_of rfl rfl eg).trans rfl) (.bool false) (by generalize a1.eval = ρ at ec ef e0 e1 ⊢; simp [execOp, ec, ef, e0, e1, IntWalk.i64_left, DL.out, go_sem]) st.inv (Below.refl _ _) rfl)
    | 39, ho => (injection ho with ho; subst ho; have ec : ∀ v, a1.eval (.const v) = v := fun _ => rfl; have ef : ∀ f, a1.eval (.func f) = .func (.func f) #[] #[] := fun _ => rfl; have e0 : a1.eval (.tmp 137) = .bool false := st.done 34 137 (hdep ⟨34, .data⟩ (by simp) rfl) rfl; have e1 : a1.eval (.tmp 141) = .bool false := st.done 38 141 (hdep ⟨38, .data⟩ (by simp) rfl) rfl; have eg : a1.eval (.tmp 134) = .bool true := st.done 31 134 (hdep ⟨31, .guard⟩ (by simp) rfl) rfl; exact AnyOrder.step_value rfl ((AnyOrder.wanted_of rfl rfl eg).trans rfl) (.bool true) (by generalize a1.eval = ρ at ec ef e0 e1 ⊢; simp [execOp, ec, ef, e0, e1, IntWalk.i64_left, go_sem]) st.inv (Below.refl _ _) rfl)
    | 40, ho => (injection ho with ho; subst ho; have ec : ∀ v, a1.eval (.const v) = v := fun _ => rfl; have ef : ∀ f, a1.eval (.func f) = .func (.func f) #[] #[] := fun _ => rfl; have e0 : a1.eval (.tmp 134) = .bool true := st.done 31 134 (hdep ⟨31, .data⟩ (by simp) rfl) rfl; have e1 : a1.eval (.tmp 142) = .bool true := st.done 39 142 (hdep ⟨39, .data⟩ (by simp) rfl) rfl; exact AnyOrder.step_value rfl (AnyOrder.wanted_none rfl) (.bool true) (by generalize a1.eval = ρ at ec ef e0 e1 ⊢; simp [execOp, ec, ef, e0, e1, IntWalk.i64_left, go_sem]) st.inv (Below.refl _ _) rfl)
    | n + 41, ho => exact absurd hin (by omega)
  · intro w2 hJ
    simp only [AnyOrder.finK, List.take_succ_cons, List.take_zero, List.drop_succ_cons, List.drop_zero, Act.put, List.setIfInBounds_toArray, List.set_cons_zero, List.set_cons_succ]
    go_wp2_with fail
    go_ret
    exact ⟨rfl, BW.out.trans (hJ.mono BW.out.size)⟩
end Go.Proofs.Ytdchokeihnoepaa
