/- SiteSets: the walk. -/
import Derived.Test.YthnjghkloodblaaSiteNames
import Derived.Test.YthnjghkloodblaaSameB
namespace Go.Proofs.Ythnjghkloodblaa
open Go.RowKit Go.Lib
set_option linter.unusedVariables false
set_option linter.unusedSimpArgs false

/-- what lies in memory all along: the configuration, the names, the two numbers -/
structure Env (c : Cfg) (p g p5 : Nat) (x0 x1 : Int) (W : World) : Prop where
  cfg : CAt W p c
  nms : ∀ k, k < 17 → W.cell? ⟨g, k, none⟩ = some (.string (nm k))
  gl : g < W.heap.size
  m0 : W.cell? ⟨p5, 0, none⟩ = some (.int .i64 x0)
  m1 : W.cell? ⟨p5, 1, none⟩ = some (.int .i64 x1)
  ml : p5 < W.heap.size
theorem Env.step {c : Cfg} {p g p5 : Nat} {x0 x1 : Int} {W W' : World} (h : Env c p g p5 x0 x1 W) (hb : Below W.heap.size W W') : Env c p g p5 x0 x1 W' :=
  ⟨h.cfg.step hb, fun k hk => (hb.cell (p := ⟨g, k, none⟩) h.gl).trans (h.nms k hk), Nat.lt_of_lt_of_le h.gl hb.size, (hb.cell (p := ⟨p5, 0, none⟩) h.ml).trans h.m0, (hb.cell (p := ⟨p5, 1, none⟩) h.ml).trans h.m1, Nat.lt_of_lt_of_le h.ml hb.size⟩
set_option maxRecDepth 100000 in
set_option maxHeartbeats 12800000 in
theorem sets_same (c : Cfg) (z0 z1 x0 x1 : Int) (w : World) (k0 k1 : Nat) (hk0 : k0 < 17) (hk1 : k1 < 17) (e0 : wrap64 ((IntKind.u64.wrap z0).tmod 17) = (k0 : Int)) (e1 : wrap64 ((IntKind.u64.wrap z1).tmod 17) = (k1 : Int)) (hab : k0 = k1) : Calls Try.prog 6 #[c.V, .agg #[.int .i64 z0, .int .i64 z1], .agg #[.int .i64 x0, .int .i64 x1]] w fun e w' => e = .returned (.bool true) ∧ Below w.heap.size w w' := by
  have gen := fun (d : Cfg) (K : Nat) (hK : K < 17) W => show Calls Try.prog 18 #[d.V, .string (nm K)] W fun e w' => e = .returned (.tuple #[.int .i64 (d.get K), .bool true]) ∧ Below W.heap.size W w' by
    have := get_yes d (nm K) W (by rw [idx_nm hK]; exact hK)
    rwa [idx_nm hK] at this
  have sen := fun (d : Cfg) (K : Nat) (hK : K < 17) (x : Int) W => show Calls Try.prog 19 #[d.V, .string (nm K), .int .i64 x] W fun e w' => e = .returned (.tuple #[(d.set K x).V, .bool true]) ∧ Below W.heap.size W w' by
    have := set_yes d (nm K) x W (by rw [idx_nm hK]; exact hK)
    rwa [idx_nm hK] at this
  have S1 := Lib.hid (sen c k0 hk0 x0)
  have S2 := Lib.hid (sen (c.set k0 x0) k1 hk1 x1)
  have S3 := Lib.hid (sen c k1 hk1 x1)
  have S4 := Lib.hid (sen (c.set k1 x1) k0 hk0 x0)
  have S5 := Lib.hid (sen (c.set k0 x0) k0 hk0 (c.get k0))
  rw [c.set_back hk0] at S5
  have G0 := Lib.hid (gen c k0 hk0)
  have GC := Lib.hid (fun i hi W => gen c i hi W)
  have GD := Lib.hid (fun i hi W => gen (c.set k0 x0) i hi W)
  have DG := Lib.hid (fun i => c.get_set hk0 x0 i)
  have HES : Hid (((c.set k0 x0).set k1 x1).s = c.s) := Lib.hid rfl
  have hq : ((nm k0).toList == (nm k1).toList) = true := by rw [hab]; simp
  generalize (c.set k1 x1).set k0 x0 = g4 at S4
  have HQ := Lib.hid hq
  have HNI := Lib.hid (fun i (hi : i < 17) e => nm_inj i hi k0 hk0 e)
  clear gen sen hab hq
  generalize (c.set k0 x0).set k1 x1 = d2 at *
  generalize c.set k0 x0 = d1 at *
  generalize c.set k1 x1 = d3 at *
  have E0 := Lib.hid e0; have E1 := Lib.hid e1
  clear e0 e1
  have CM := Lib.hid names_any
  have HA0 : Hid (CAt (((w.alloc (.cells c.cells 24)).alloc (.cells #[.int .i64 z0, .int .i64 z1] 45)).alloc (.cells #[.int .i64 x0, .int .i64 x1] 45)) w.heap.size c) := Lib.hid (((CAt.new w c).step (below_new _ _)).step (below_new _ _))
  have H40 : Hid (At (((w.alloc (.cells c.cells 24)).alloc (.cells #[.int .i64 z0, .int .i64 z1] 45)).alloc (.cells #[.int .i64 x0, .int .i64 x1] 45)) (w.heap.size + 1) 45 #[.int .i64 z0, .int .i64 z1]) := Lib.hid (by
    have := (At.new (w.alloc (.cells c.cells 24)) 45 #[.int .i64 z0, .int .i64 z1]).alloc (.cells #[.int .i64 x0, .int .i64 x1] 45)
    simpa using this)
  have H50 : Hid (At (((w.alloc (.cells c.cells 24)).alloc (.cells #[.int .i64 z0, .int .i64 z1] 45)).alloc (.cells #[.int .i64 x0, .int .i64 x1] 45)) (w.heap.size + 1 + 1) 45 #[.int .i64 x0, .int .i64 x1]) := Lib.hid (by
    have := At.new ((w.alloc (.cells c.cells 24)).alloc (.cells #[.int .i64 z0, .int .i64 z1] 45)) 45 #[.int .i64 x0, .int .i64 x1]
    simpa using this)
  have HB0 : Hid (Below w.heap.size w (((w.alloc (.cells c.cells 24)).alloc (.cells #[.int .i64 z0, .int .i64 z1] 45)).alloc (.cells #[.int .i64 x0, .int .i64 x1] 45))) := Lib.hid (((below_new w _).alloc (by simp) _).alloc (by simp; omega) _)
  go_enter Try.func6, Try.ntmps6
  go_wp2_with fail
  refine (awake_any _).mono ?_
  rintro e w1 ⟨rfl, hb⟩
  have HA1 := Lib.hid (HA0.out.step hb)
  have H41 := Lib.hid (H40.out.below hb H40.out.lt)
  have H51 := Lib.hid (H50.out.below hb H50.out.lt)
  have HB1 := Lib.hid (HB0.out.trans (hb.mono HB0.out.size))
  clear hb HA0 H40 H50 HB0
  generalize w.heap.size + 1 + 1 = p5 at *
  generalize w.heap.size + 1 = p4 at *
  go_wp2_with fail
  refine (CM.out _).mono ?_
  rintro e W3 ⟨g, cap, rfl, hcap, hg, hcells, hb⟩
  have hcap' : (17 : Int) ≤ (cap : Int) := by omega
  have V3 : Hid (Env c w.heap.size g p5 x0 x1 W3) := Lib.hid ⟨HA1.out.step hb, hcells, hg, by rw [(H51.out.below hb H51.out.lt).cell]; rfl, by rw [(H51.out.below hb H51.out.lt).cell]; rfl, (H51.out.below hb H51.out.lt).lt⟩
  have HB3 := Lib.hid (HB1.out.trans (hb.mono HB1.out.size))
  have z40 : W3.cell? ⟨p4, 0, none⟩ = some (.int .i64 z0) := by rw [(H41.out.below hb H41.out.lt).cell]; rfl
  have z41 : W3.cell? ⟨p4, 1, none⟩ = some (.int .i64 z1) := by rw [(H41.out.below hb H41.out.lt).cell]; rfl
  have n0 := hcells k0 hk0; have n1 := hcells k1 hk1
  have hw0 := E0.out; have hw1 := E1.out
  have b0 : (0 : Int) ≤ (k0 : Int) := by omega
  have b1 : (k0 : Int) < 17 := by omega
  have b2 : (0 : Int) ≤ (k1 : Int) := by omega
  have b3 : (k1 : Int) < 17 := by omega
  clear hb hcells hg HA1 H41 H51 HB1 E0 E1
  go_upto_region 6 with fail
  clear z40 z41 n0 n1 hw0 hw1 b0 b1 b2 b3
  have m0 := V3.out.m0; have m1 := V3.out.m1
  go_wp2_with (refine wpList_load_at 3 rfl rfl rfl V3.out.cfg ?_)
  refine (S1.out _).mono ?_
  rintro e v6 ⟨rfl, hb⟩
  clear m0 m1
  go_upto_region 7 with (refine wpList_store_row rfl 24 _ _ rfl _ d1.cells rfl rfl 24 _ (heap_alloc_new _ _) (size24 d1) (by rw [Cfg.size]; rfl) (Cfg.one d1) ?_; rw [World.setRow_alloc_new])
  have hn := hb.trans ((below_new v6 (.cells d1.cells 24)).mono hb.size)
  have V16 := Lib.hid (V3.out.step hn)
  have HB16 := Lib.hid (HB3.out.trans (hn.mono HB3.out.size))
  have Hq10 := Lib.hid (CAt.new v6 d1)
  obtain ⟨W16, hW⟩ : ∃ W16, v6.alloc (.cells d1.cells 24) = W16 := ⟨_, rfl⟩
  rw [hW] at V16 HB16  Hq10 ⊢
  clear hW hn hb V3 HB3
  generalize v6.heap.size = q10 at *
  have m0 := V16.out.m0; have m1 := V16.out.m1
  go_wp2_with (refine wpList_load_at 10 rfl rfl rfl Hq10.out ?_)
  refine (S2.out _).mono ?_
  rintro e v7 ⟨rfl, hb⟩
  clear m0 m1
  go_upto_region 8 with (refine wpList_store_row rfl 24 _ _ rfl _ d2.cells rfl rfl 24 _ (heap_alloc_new _ _) (size24 d2) (by rw [Cfg.size]; rfl) (Cfg.one d2) ?_; rw [World.setRow_alloc_new])
  have hn := hb.trans ((below_new v7 (.cells d2.cells 24)).mono hb.size)
  have V17 := Lib.hid (V16.out.step hn)
  have HB17 := Lib.hid (HB16.out.trans (hn.mono HB16.out.size))
  replace Hq10 := Lib.hid (Hq10.out.step hn)
  have Hq12 := Lib.hid (CAt.new v7 d2)
  obtain ⟨W17, hW⟩ : ∃ W17, v7.alloc (.cells d2.cells 24) = W17 := ⟨_, rfl⟩
  rw [hW] at V17 HB17 Hq10 Hq12 ⊢
  clear hW hn hb V16 HB16
  generalize v7.heap.size = q12 at *
  have m0 := V17.out.m0; have m1 := V17.out.m1
  go_wp2_with (refine wpList_load_at 3 rfl rfl rfl V17.out.cfg ?_)
  refine (S3.out _).mono ?_
  rintro e v8 ⟨rfl, hb⟩
  clear m0 m1
  go_upto_region 9 with (refine wpList_store_row rfl 24 _ _ rfl _ d3.cells rfl rfl 24 _ (heap_alloc_new _ _) (size24 d3) (by rw [Cfg.size]; rfl) (Cfg.one d3) ?_; rw [World.setRow_alloc_new])
  have hn := hb.trans ((below_new v8 (.cells d3.cells 24)).mono hb.size)
  have V18 := Lib.hid (V17.out.step hn)
  have HB18 := Lib.hid (HB17.out.trans (hn.mono HB17.out.size))
  replace Hq10 := Lib.hid (Hq10.out.step hn)
  replace Hq12 := Lib.hid (Hq12.out.step hn)
  have Hq14 := Lib.hid (CAt.new v8 d3)
  obtain ⟨W18, hW⟩ : ∃ W18, v8.alloc (.cells d3.cells 24) = W18 := ⟨_, rfl⟩
  rw [hW] at V18 HB18 Hq10 Hq12 Hq14 ⊢
  clear hW hn hb V17 HB17
  generalize v8.heap.size = q14 at *
  have m0 := V18.out.m0; have m1 := V18.out.m1
  go_wp2_with (refine wpList_load_at 14 rfl rfl rfl Hq14.out ?_)
  refine (S4.out _).mono ?_
  rintro e v9 ⟨rfl, hb⟩
  clear m0 m1
  go_upto_region 10 with (refine wpList_store_row rfl 24 _ _ rfl _ g4.cells rfl rfl 24 _ (heap_alloc_new _ _) (size24 g4) (by rw [Cfg.size]; rfl) (Cfg.one g4) ?_; rw [World.setRow_alloc_new])
  have hn := hb.trans ((below_new v9 (.cells g4.cells 24)).mono hb.size)
  have V19 := Lib.hid (V18.out.step hn)
  have HB19 := Lib.hid (HB18.out.trans (hn.mono HB18.out.size))
  replace Hq10 := Lib.hid (Hq10.out.step hn)
  replace Hq12 := Lib.hid (Hq12.out.step hn)
  replace Hq14 := Lib.hid (Hq14.out.step hn)
  have Hq16 := Lib.hid (CAt.new v9 g4)
  obtain ⟨W19, hW⟩ : ∃ W19, v9.alloc (.cells g4.cells 24) = W19 := ⟨_, rfl⟩
  rw [hW] at V19 HB19 Hq10 Hq12 Hq14 Hq16 ⊢
  clear hW hn hb V18 HB18
  generalize v9.heap.size = q16 at *
  have s1 : W19.cell? ⟨q12, 17, none⟩ = some (.int .u32 c.s) := by rw [Hq12.out.sec, HES.out]
  have s2 := V19.out.cfg.sec
  have hq := HQ.out
  go_upto_region 12 with fail
  clear s1 s2 hq Hq12 Hq14 Hq16 S1 S2 S3 S4 HES HQ
  have HD := Hq10.out.all
  have HDA := Lib.hid HD
  have VA := Lib.hid (fun W (hb : Below W19.heap.size W19 W) => V19.out.step hb)
  clear HD V19 Hq10
  go_wp2_with fail
  go_loopg [18] 17 (fun gh s18 wx => ∃ j : Nat, j ≤ 17 ∧ gh = 17 - j ∧ s18 = .int .i64 (j : Int) ∧ Below W19.heap.size W19 wx)
  case atStart => exact ⟨0, Nat.zero_le _, rfl, rfl, Below.refl _ _⟩
  case round =>
    obtain ⟨j, hj, hgh, rfl, hcur⟩ := hrel
    have HG := Lib.hid hgh; have HC := Lib.hid hcur; clear hgh hcur
    by_cases hlt : j < 17
    · have b0 : (0 : Int) ≤ (j : Int) := by omega
      have b1 : (j : Int) < 17 := by omega
      have VJ := Lib.hid (VA.out _ HC.out)
      have DJ := Lib.hid (HDA.out _ HC.out)
      have CJ := Lib.hid (fun W => GC.out j hlt W)
      have CDJ := Lib.hid (fun W => GD.out j hlt W)
      have hdg := DG.out j
      have hni := HNI.out j hlt
      go_wp2_with fail
      refine AnyOrder.region_kinds2 10 [.eq (c.V), .eq (.slice (some ⟨g, 0, none⟩) 17 cap), .eq (.int .i64 (j : Int)), .eq (ptr g j), .eq (.string (nm j)), .eq (.tuple #[.int .i64 (c.get j), .bool true]), .eq (.tuple #[.int .i64 (c.get j), .bool true]), .eq (.int .i64 (c.get j)), .eq (.bool true), .eq (.int .i64 (c.get j))] (fun wx => Below wr.heap.size wr wx) (by kernel_rfl) (by kernel_rfl) rfl (by kernel_rfl) (below_drewN (Below.refl _ _) 1) (fun p _ _ hp => by simp at hp) ?_ ?_
      · intro i o listed a1 w2 hin ho st hl hdep
        match i, ho with
        | 0, ho => (injection ho with ho; subst ho; have ec : ∀ v, a1.eval (.const v) = v := fun _ => rfl; have ef : ∀ f, a1.eval (.func f) = .func (.func f) #[] #[] := fun _ => rfl; have e0 : a1.eval (.tmp 3) = ptr w.heap.size 0 := st.old hl 3 (by kernel_rfl); exact AnyOrder.step_value rfl (AnyOrder.wanted_none rfl) (c.V) (run_load_cfg e0 ((VJ.out.step st.inv).cfg)) st.inv (Below.refl _ _) rfl)
        | 1, ho => (injection ho with ho; subst ho; have ec : ∀ v, a1.eval (.const v) = v := fun _ => rfl; have ef : ∀ f, a1.eval (.func f) = .func (.func f) #[] #[] := fun _ => rfl; have e0 : a1.eval (.tmp 7) = .slice (some ⟨g, 0, none⟩) 17 cap := st.old hl 7 (by kernel_rfl); exact AnyOrder.step_value rfl (AnyOrder.wanted_none rfl) (.slice (some ⟨g, 0, none⟩) 17 cap) (AnyOrder.run_move e0) st.inv (Below.refl _ _) rfl)
        | 2, ho => (injection ho with ho; subst ho; have ec : ∀ v, a1.eval (.const v) = v := fun _ => rfl; have ef : ∀ f, a1.eval (.func f) = .func (.func f) #[] #[] := fun _ => rfl; have e0 : a1.eval (.tmp 18) = .int .i64 (j : Int) := st.old hl 18 (by kernel_rfl); exact AnyOrder.step_value rfl (AnyOrder.wanted_none rfl) (.int .i64 (j : Int)) (AnyOrder.run_move e0) st.inv (Below.refl _ _) rfl)
        | 3, ho => (injection ho with ho; subst ho; have ec : ∀ v, a1.eval (.const v) = v := fun _ => rfl; have ef : ∀ f, a1.eval (.func f) = .func (.func f) #[] #[] := fun _ => rfl; have e0 : a1.eval (.tmp 107) = .slice (some ⟨g, 0, none⟩) 17 cap := st.done 1 107 (hdep ⟨1, .data⟩ (by simp) rfl) rfl; have e1 : a1.eval (.tmp 108) = .int .i64 (j : Int) := st.done 2 108 (hdep ⟨2, .data⟩ (by simp) rfl) rfl; exact AnyOrder.step_value rfl (AnyOrder.wanted_none rfl) (ptr g j) (by generalize a1.eval = ρ at ec ef e0 e1 ⊢; simp [execOp, ec, ef, e0, e1, IntWalk.i64_left, b0, b1, go_sem]) st.inv (Below.refl _ _) rfl)
        | 4, ho => (injection ho with ho; subst ho; have ec : ∀ v, a1.eval (.const v) = v := fun _ => rfl; have ef : ∀ f, a1.eval (.func f) = .func (.func f) #[] #[] := fun _ => rfl; have e0 : a1.eval (.tmp 109) = ptr g j := st.done 3 109 (hdep ⟨3, .data⟩ (by simp) rfl) rfl; exact AnyOrder.step_value rfl (AnyOrder.wanted_none rfl) (.string (nm j)) (by generalize a1.eval = ρ at ec ef e0 ⊢; simp [execOp, ec, ef, e0, IntWalk.i64_left, (VJ.out.step st.inv).nms j hlt, go_sem]) st.inv (Below.refl _ _) rfl)
        | 5, ho => (injection ho with ho; subst ho; have ec : ∀ v, a1.eval (.const v) = v := fun _ => rfl; have ef : ∀ f, a1.eval (.func f) = .func (.func f) #[] #[] := fun _ => rfl; have e0 : a1.eval (.tmp 106) = c.V := st.done 0 106 (hdep ⟨0, .data⟩ (by simp) rfl) rfl; have e1 : a1.eval (.tmp 110) = .string (nm j) := st.done 4 110 (hdep ⟨4, .data⟩ (by simp) rfl) rfl; exact AnyOrder.step_call rfl (AnyOrder.wanted_none rfl) 18 #[c.V, .string (nm j)] (by generalize a1.eval = ρ at ec ef e0 e1 ⊢; simp [execOp, ec, ef, e0, e1, go_sem]) ((CJ.out _).mono (fun e w3 h => by obtain ⟨rfl, hb⟩ := h; exact ⟨_, rfl, st.inv.trans (hb.mono st.inv.size), hb, rfl⟩)))
        | 6, ho => (injection ho with ho; subst ho; have ec : ∀ v, a1.eval (.const v) = v := fun _ => rfl; have ef : ∀ f, a1.eval (.func f) = .func (.func f) #[] #[] := fun _ => rfl; have e0 : a1.eval (.tmp 111) = .tuple #[.int .i64 (c.get j), .bool true] := st.done 5 111 (hdep ⟨5, .data⟩ (by simp) rfl) rfl; exact AnyOrder.step_value rfl (AnyOrder.wanted_none rfl) (.tuple #[.int .i64 (c.get j), .bool true]) (AnyOrder.run_move e0) st.inv (Below.refl _ _) rfl)
        | 7, ho => (injection ho with ho; subst ho; have ec : ∀ v, a1.eval (.const v) = v := fun _ => rfl; have ef : ∀ f, a1.eval (.func f) = .func (.func f) #[] #[] := fun _ => rfl; have e0 : a1.eval (.tmp 105) = .tuple #[.int .i64 (c.get j), .bool true] := st.done 6 105 (hdep ⟨6, .data⟩ (by simp) rfl) rfl; exact AnyOrder.step_value rfl (AnyOrder.wanted_none rfl) (.int .i64 (c.get j)) (by generalize a1.eval = ρ at ec ef e0 ⊢; simp [execOp, ec, ef, e0, IntWalk.i64_left, go_sem]) st.inv (Below.refl _ _) rfl)
        | 8, ho => (injection ho with ho; subst ho; have ec : ∀ v, a1.eval (.const v) = v := fun _ => rfl; have ef : ∀ f, a1.eval (.func f) = .func (.func f) #[] #[] := fun _ => rfl; have e0 : a1.eval (.tmp 105) = .tuple #[.int .i64 (c.get j), .bool true] := st.done 6 105 (hdep ⟨6, .data⟩ (by simp) rfl) rfl; exact AnyOrder.step_value rfl (AnyOrder.wanted_none rfl) (.bool true) (by generalize a1.eval = ρ at ec ef e0 ⊢; simp [execOp, ec, ef, e0, IntWalk.i64_left, go_sem]) st.inv (Below.refl _ _) rfl)
        | 9, ho => (injection ho with ho; subst ho; have ec : ∀ v, a1.eval (.const v) = v := fun _ => rfl; have ef : ∀ f, a1.eval (.func f) = .func (.func f) #[] #[] := fun _ => rfl; have e0 : a1.eval (.tmp 112) = .int .i64 (c.get j) := st.done 7 112 (hdep ⟨7, .data⟩ (by simp) rfl) rfl; exact AnyOrder.step_value rfl (AnyOrder.wanted_none rfl) (.int .i64 (c.get j)) (by generalize a1.eval = ρ at ec ef e0 ⊢; simp [execOp, ec, ef, e0, IntWalk.i64_left, go_sem]) st.inv (Below.refl _ _) rfl)
        | n + 10, ho => exact absurd hin (by omega)
      · intro V15 hJ
        simp only [AnyOrder.finK, List.take_succ_cons, List.take_zero, List.drop_succ_cons, List.drop_zero, Act.put, List.setIfInBounds_toArray, List.set_cons_zero, List.set_cons_succ]
        have VJ2 := Lib.hid (VJ.out.step hJ)
        have DJ2 := Lib.hid (DJ.out.step hJ)
        have HC2 := Lib.hid (HC.out.trans (hJ.mono HC.out.size))
        clear hJ VJ DJ HC
        go_wp2_with fail
        refine AnyOrder.region_kinds2 10 [.eq (d1.V), .eq (.slice (some ⟨g, 0, none⟩) 17 cap), .eq (.int .i64 (j : Int)), .eq (ptr g j), .eq (.string (nm j)), .eq (.tuple #[.int .i64 (d1.get j), .bool true]), .eq (.tuple #[.int .i64 (d1.get j), .bool true]), .eq (.int .i64 (d1.get j)), .eq (.bool true), .eq (.int .i64 (d1.get j))] (fun wx => Below V15.heap.size V15 wx) (by kernel_rfl) (by kernel_rfl) rfl (by kernel_rfl) (below_drewN (Below.refl _ _) 1) (fun p _ _ hp => by simp at hp) ?_ ?_
        · intro i o listed a1 w2 hin ho st hl hdep
          match i, ho with
          | 0, ho => (injection ho with ho; subst ho; have ec : ∀ v, a1.eval (.const v) = v := fun _ => rfl; have ef : ∀ f, a1.eval (.func f) = .func (.func f) #[] #[] := fun _ => rfl; have e0 : a1.eval (.tmp 10) = ptr q10 0 := st.old hl 10 (by kernel_rfl); exact AnyOrder.step_value rfl (AnyOrder.wanted_none rfl) (d1.V) (run_load_cfg e0 (DJ2.out.step st.inv)) st.inv (Below.refl _ _) rfl)
          | 1, ho => (injection ho with ho; subst ho; have ec : ∀ v, a1.eval (.const v) = v := fun _ => rfl; have ef : ∀ f, a1.eval (.func f) = .func (.func f) #[] #[] := fun _ => rfl; have e0 : a1.eval (.tmp 7) = .slice (some ⟨g, 0, none⟩) 17 cap := st.old hl 7 (by kernel_rfl); exact AnyOrder.step_value rfl (AnyOrder.wanted_none rfl) (.slice (some ⟨g, 0, none⟩) 17 cap) (AnyOrder.run_move e0) st.inv (Below.refl _ _) rfl)
          | 2, ho => (injection ho with ho; subst ho; have ec : ∀ v, a1.eval (.const v) = v := fun _ => rfl; have ef : ∀ f, a1.eval (.func f) = .func (.func f) #[] #[] := fun _ => rfl; have e0 : a1.eval (.tmp 18) = .int .i64 (j : Int) := st.old hl 18 (by kernel_rfl); exact AnyOrder.step_value rfl (AnyOrder.wanted_none rfl) (.int .i64 (j : Int)) (AnyOrder.run_move e0) st.inv (Below.refl _ _) rfl)
          | 3, ho => (injection ho with ho; subst ho; have ec : ∀ v, a1.eval (.const v) = v := fun _ => rfl; have ef : ∀ f, a1.eval (.func f) = .func (.func f) #[] #[] := fun _ => rfl; have e0 : a1.eval (.tmp 116) = .slice (some ⟨g, 0, none⟩) 17 cap := st.done 1 116 (hdep ⟨1, .data⟩ (by simp) rfl) rfl; have e1 : a1.eval (.tmp 117) = .int .i64 (j : Int) := st.done 2 117 (hdep ⟨2, .data⟩ (by simp) rfl) rfl; exact AnyOrder.step_value rfl (AnyOrder.wanted_none rfl) (ptr g j) (by generalize a1.eval = ρ at ec ef e0 e1 ⊢; simp [execOp, ec, ef, e0, e1, IntWalk.i64_left, b0, b1, go_sem]) st.inv (Below.refl _ _) rfl)
          | 4, ho => (injection ho with ho; subst ho; have ec : ∀ v, a1.eval (.const v) = v := fun _ => rfl; have ef : ∀ f, a1.eval (.func f) = .func (.func f) #[] #[] := fun _ => rfl; have e0 : a1.eval (.tmp 118) = ptr g j := st.done 3 118 (hdep ⟨3, .data⟩ (by simp) rfl) rfl; exact AnyOrder.step_value rfl (AnyOrder.wanted_none rfl) (.string (nm j)) (by generalize a1.eval = ρ at ec ef e0 ⊢; simp [execOp, ec, ef, e0, IntWalk.i64_left, (VJ2.out.step st.inv).nms j hlt, go_sem]) st.inv (Below.refl _ _) rfl)
          | 5, ho => (injection ho with ho; subst ho; have ec : ∀ v, a1.eval (.const v) = v := fun _ => rfl; have ef : ∀ f, a1.eval (.func f) = .func (.func f) #[] #[] := fun _ => rfl; have e0 : a1.eval (.tmp 115) = d1.V := st.done 0 115 (hdep ⟨0, .data⟩ (by simp) rfl) rfl; have e1 : a1.eval (.tmp 119) = .string (nm j) := st.done 4 119 (hdep ⟨4, .data⟩ (by simp) rfl) rfl; exact AnyOrder.step_call rfl (AnyOrder.wanted_none rfl) 18 #[d1.V, .string (nm j)] (by generalize a1.eval = ρ at ec ef e0 e1 ⊢; simp [execOp, ec, ef, e0, e1, go_sem]) ((CDJ.out _).mono (fun e w3 h => by obtain ⟨rfl, hb⟩ := h; exact ⟨_, rfl, st.inv.trans (hb.mono st.inv.size), hb, rfl⟩)))
          | 6, ho => (injection ho with ho; subst ho; have ec : ∀ v, a1.eval (.const v) = v := fun _ => rfl; have ef : ∀ f, a1.eval (.func f) = .func (.func f) #[] #[] := fun _ => rfl; have e0 : a1.eval (.tmp 120) = .tuple #[.int .i64 (d1.get j), .bool true] := st.done 5 120 (hdep ⟨5, .data⟩ (by simp) rfl) rfl; exact AnyOrder.step_value rfl (AnyOrder.wanted_none rfl) (.tuple #[.int .i64 (d1.get j), .bool true]) (AnyOrder.run_move e0) st.inv (Below.refl _ _) rfl)
          | 7, ho => (injection ho with ho; subst ho; have ec : ∀ v, a1.eval (.const v) = v := fun _ => rfl; have ef : ∀ f, a1.eval (.func f) = .func (.func f) #[] #[] := fun _ => rfl; have e0 : a1.eval (.tmp 114) = .tuple #[.int .i64 (d1.get j), .bool true] := st.done 6 114 (hdep ⟨6, .data⟩ (by simp) rfl) rfl; exact AnyOrder.step_value rfl (AnyOrder.wanted_none rfl) (.int .i64 (d1.get j)) (by generalize a1.eval = ρ at ec ef e0 ⊢; simp [execOp, ec, ef, e0, IntWalk.i64_left, go_sem]) st.inv (Below.refl _ _) rfl)
          | 8, ho => (injection ho with ho; subst ho; have ec : ∀ v, a1.eval (.const v) = v := fun _ => rfl; have ef : ∀ f, a1.eval (.func f) = .func (.func f) #[] #[] := fun _ => rfl; have e0 : a1.eval (.tmp 114) = .tuple #[.int .i64 (d1.get j), .bool true] := st.done 6 114 (hdep ⟨6, .data⟩ (by simp) rfl) rfl; exact AnyOrder.step_value rfl (AnyOrder.wanted_none rfl) (.bool true) (by generalize a1.eval = ρ at ec ef e0 ⊢; simp [execOp, ec, ef, e0, IntWalk.i64_left, go_sem]) st.inv (Below.refl _ _) rfl)
          | 9, ho => (injection ho with ho; subst ho; have ec : ∀ v, a1.eval (.const v) = v := fun _ => rfl; have ef : ∀ f, a1.eval (.func f) = .func (.func f) #[] #[] := fun _ => rfl; have e0 : a1.eval (.tmp 121) = .int .i64 (d1.get j) := st.done 7 121 (hdep ⟨7, .data⟩ (by simp) rfl) rfl; exact AnyOrder.step_value rfl (AnyOrder.wanted_none rfl) (.int .i64 (d1.get j)) (by generalize a1.eval = ρ at ec ef e0 ⊢; simp [execOp, ec, ef, e0, IntWalk.i64_left, go_sem]) st.inv (Below.refl _ _) rfl)
          | n + 10, ho => exact absurd hin (by omega)
        · intro V16 hJ
          simp only [AnyOrder.finK, List.take_succ_cons, List.take_zero, List.drop_succ_cons, List.drop_zero, Act.put, List.setIfInBounds_toArray, List.set_cons_zero, List.set_cons_succ]
          have VJ3 := Lib.hid (VJ2.out.step hJ)
          have HC3 := Lib.hid (HC2.out.trans (hJ.mono HC2.out.size))
          have n1 := VJ3.out.nms j hlt
          have m0 := VJ3.out.m0
          clear hJ VJ2 DJ2 HC2
          by_cases hjk : j = k0
          · subst hjk
            rw [if_pos rfl] at hdg
            rw [hdg]
            have hs : ((nm j).toList == (nm j).toList) = true := by simp
            clear hdg hni
            go_wp2_with fail
            go_roundg (17 - (j + 1))
            case measure => have := HG.out; omega
            case rel => exact ⟨j + 1, by omega, rfl, by go_num, HC3.out⟩
          · rw [if_neg hjk] at hdg
            rw [hdg]
            have hs : ((nm j).toList == (nm k0).toList) = false := text_ne (fun e => hjk (hni e))
            clear hdg hni
            go_wp2_with fail
            go_roundg (17 - (j + 1))
            case measure => have := HG.out; omega
            case rel => exact ⟨j + 1, by omega, rfl, by go_num, HC3.out⟩
    · obtain rfl : j = 17 := by omega
      have VJ := Lib.hid (VA.out _ HC.out)
      have DJ := Lib.hid (HDA.out _ HC.out)
      have HBJ := Lib.hid (HB19.out.trans (HC.out.mono HB19.out.size))
      clear VA HDA HB19 HC HG hlt hj GC GD DG HNI
      go_wp2_with (refine wpList_load_at 3 rfl rfl rfl VJ.out.cfg ?_)
      refine (G0.out _).mono ?_
      rintro e v20 ⟨rfl, hb⟩
      replace VJ := Lib.hid (VJ.out.step hb)
      replace DJ := Lib.hid (DJ.out.step hb)
      replace HBJ := Lib.hid (HBJ.out.trans (hb.mono HBJ.out.size))
      clear hb
      go_wp2_with (refine wpList_load_at 10 rfl rfl rfl DJ.out ?_)
      refine (S5.out _).mono ?_
      rintro e v21 ⟨rfl, hb⟩
      go_upto_region 21 with (refine wpList_store_row rfl 24 _ _ rfl _ c.cells rfl rfl 24 _ (heap_alloc_new _ _) (size24 c) (by rw [Cfg.size]; rfl) (Cfg.one c) ?_; rw [World.setRow_alloc_new])
      have hn := hb.trans ((below_new v21 (.cells c.cells 24)).mono hb.size)
      replace VJ := Lib.hid (VJ.out.step hn)
      replace HBJ := Lib.hid (HBJ.out.trans (hn.mono HBJ.out.size))
      have HH := Lib.hid (CAt.new v21 c)
      obtain ⟨W22, hW⟩ : ∃ W22, v21.alloc (.cells c.cells 24) = W22 := ⟨_, rfl⟩
      rw [hW] at VJ HBJ HH ⊢
      clear hW hn hb DJ
      generalize v21.heap.size = q25 at *
      go_wp2_with (first | (refine wpList_load_at 25 rfl rfl rfl HH.out ?_) | (refine wpList_load_at 3 rfl rfl rfl VJ.out.cfg ?_) | (refine wpList_eql_at 161 162 24 rfl rfl (c := c) rfl rfl ?_))
      go_ret
      exact ⟨rfl, HBJ.out⟩
set_option maxRecDepth 100000 in
set_option maxHeartbeats 12800000 in
theorem sets_apart (c : Cfg) (z0 z1 x0 x1 : Int) (w : World) (k0 k1 : Nat) (hk0 : k0 < 17) (hk1 : k1 < 17) (e0 : wrap64 ((IntKind.u64.wrap z0).tmod 17) = (k0 : Int)) (e1 : wrap64 ((IntKind.u64.wrap z1).tmod 17) = (k1 : Int)) (hab : k0 ≠ k1) : Calls Try.prog 6 #[c.V, .agg #[.int .i64 z0, .int .i64 z1], .agg #[.int .i64 x0, .int .i64 x1]] w fun e w' => e = .returned (.bool true) ∧ Below w.heap.size w w' := by
  have gen := fun (d : Cfg) (K : Nat) (hK : K < 17) W => show Calls Try.prog 18 #[d.V, .string (nm K)] W fun e w' => e = .returned (.tuple #[.int .i64 (d.get K), .bool true]) ∧ Below W.heap.size W w' by
    have := get_yes d (nm K) W (by rw [idx_nm hK]; exact hK)
    rwa [idx_nm hK] at this
  have sen := fun (d : Cfg) (K : Nat) (hK : K < 17) (x : Int) W => show Calls Try.prog 19 #[d.V, .string (nm K), .int .i64 x] W fun e w' => e = .returned (.tuple #[(d.set K x).V, .bool true]) ∧ Below W.heap.size W w' by
    have := set_yes d (nm K) x W (by rw [idx_nm hK]; exact hK)
    rwa [idx_nm hK] at this
  have S1 := Lib.hid (sen c k0 hk0 x0)
  have S2 := Lib.hid (sen (c.set k0 x0) k1 hk1 x1)
  have S3 := Lib.hid (sen c k1 hk1 x1)
  have S4 := Lib.hid (sen (c.set k1 x1) k0 hk0 x0)
  have S5 := Lib.hid (sen (c.set k0 x0) k0 hk0 (c.get k0))
  rw [c.set_back hk0] at S5
  have G0 := Lib.hid (gen c k0 hk0)
  have GC := Lib.hid (fun i hi W => gen c i hi W)
  have GD := Lib.hid (fun i hi W => gen (c.set k0 x0) i hi W)
  have DG := Lib.hid (fun i => c.get_set hk0 x0 i)
  have HES : Hid (((c.set k0 x0).set k1 x1).s = c.s) := Lib.hid rfl
  rw [← c.set_comm hk0 hk1 hab x0 x1] at S4
  have hq : ((nm k0).toList == (nm k1).toList) = false := text_ne (fun e => hab (nm_inj k0 hk0 k1 hk1 e))
  have HQ := Lib.hid hq
  have HNI := Lib.hid (fun i (hi : i < 17) e => nm_inj i hi k0 hk0 e)
  clear gen sen hab hq
  generalize (c.set k0 x0).set k1 x1 = d2 at *
  generalize c.set k0 x0 = d1 at *
  generalize c.set k1 x1 = d3 at *
  have E0 := Lib.hid e0; have E1 := Lib.hid e1
  clear e0 e1
  have CM := Lib.hid names_any
  have HA0 : Hid (CAt (((w.alloc (.cells c.cells 24)).alloc (.cells #[.int .i64 z0, .int .i64 z1] 45)).alloc (.cells #[.int .i64 x0, .int .i64 x1] 45)) w.heap.size c) := Lib.hid (((CAt.new w c).step (below_new _ _)).step (below_new _ _))
  have H40 : Hid (At (((w.alloc (.cells c.cells 24)).alloc (.cells #[.int .i64 z0, .int .i64 z1] 45)).alloc (.cells #[.int .i64 x0, .int .i64 x1] 45)) (w.heap.size + 1) 45 #[.int .i64 z0, .int .i64 z1]) := Lib.hid (by
    have := (At.new (w.alloc (.cells c.cells 24)) 45 #[.int .i64 z0, .int .i64 z1]).alloc (.cells #[.int .i64 x0, .int .i64 x1] 45)
    simpa using this)
  have H50 : Hid (At (((w.alloc (.cells c.cells 24)).alloc (.cells #[.int .i64 z0, .int .i64 z1] 45)).alloc (.cells #[.int .i64 x0, .int .i64 x1] 45)) (w.heap.size + 1 + 1) 45 #[.int .i64 x0, .int .i64 x1]) := Lib.hid (by
    have := At.new ((w.alloc (.cells c.cells 24)).alloc (.cells #[.int .i64 z0, .int .i64 z1] 45)) 45 #[.int .i64 x0, .int .i64 x1]
    simpa using this)
  have HB0 : Hid (Below w.heap.size w (((w.alloc (.cells c.cells 24)).alloc (.cells #[.int .i64 z0, .int .i64 z1] 45)).alloc (.cells #[.int .i64 x0, .int .i64 x1] 45))) := Lib.hid (((below_new w _).alloc (by simp) _).alloc (by simp; omega) _)
  go_enter Try.func6, Try.ntmps6
  go_wp2_with fail
  refine (awake_any _).mono ?_
  rintro e w1 ⟨rfl, hb⟩
  have HA1 := Lib.hid (HA0.out.step hb)
  have H41 := Lib.hid (H40.out.below hb H40.out.lt)
  have H51 := Lib.hid (H50.out.below hb H50.out.lt)
  have HB1 := Lib.hid (HB0.out.trans (hb.mono HB0.out.size))
  clear hb HA0 H40 H50 HB0
  generalize w.heap.size + 1 + 1 = p5 at *
  generalize w.heap.size + 1 = p4 at *
  go_wp2_with fail
  refine (CM.out _).mono ?_
  rintro e W3 ⟨g, cap, rfl, hcap, hg, hcells, hb⟩
  have hcap' : (17 : Int) ≤ (cap : Int) := by omega
  have V3 : Hid (Env c w.heap.size g p5 x0 x1 W3) := Lib.hid ⟨HA1.out.step hb, hcells, hg, by rw [(H51.out.below hb H51.out.lt).cell]; rfl, by rw [(H51.out.below hb H51.out.lt).cell]; rfl, (H51.out.below hb H51.out.lt).lt⟩
  have HB3 := Lib.hid (HB1.out.trans (hb.mono HB1.out.size))
  have z40 : W3.cell? ⟨p4, 0, none⟩ = some (.int .i64 z0) := by rw [(H41.out.below hb H41.out.lt).cell]; rfl
  have z41 : W3.cell? ⟨p4, 1, none⟩ = some (.int .i64 z1) := by rw [(H41.out.below hb H41.out.lt).cell]; rfl
  have n0 := hcells k0 hk0; have n1 := hcells k1 hk1
  have hw0 := E0.out; have hw1 := E1.out
  have b0 : (0 : Int) ≤ (k0 : Int) := by omega
  have b1 : (k0 : Int) < 17 := by omega
  have b2 : (0 : Int) ≤ (k1 : Int) := by omega
  have b3 : (k1 : Int) < 17 := by omega
  clear hb hcells hg HA1 H41 H51 HB1 E0 E1
  go_upto_region 6 with fail
  clear z40 z41 n0 n1 hw0 hw1 b0 b1 b2 b3
  have m0 := V3.out.m0; have m1 := V3.out.m1
  go_wp2_with (refine wpList_load_at 3 rfl rfl rfl V3.out.cfg ?_)
  refine (S1.out _).mono ?_
  rintro e v6 ⟨rfl, hb⟩
  clear m0 m1
  go_upto_region 7 with (refine wpList_store_row rfl 24 _ _ rfl _ d1.cells rfl rfl 24 _ (heap_alloc_new _ _) (size24 d1) (by rw [Cfg.size]; rfl) (Cfg.one d1) ?_; rw [World.setRow_alloc_new])
  have hn := hb.trans ((below_new v6 (.cells d1.cells 24)).mono hb.size)
  have V16 := Lib.hid (V3.out.step hn)
  have HB16 := Lib.hid (HB3.out.trans (hn.mono HB3.out.size))
  have Hq10 := Lib.hid (CAt.new v6 d1)
  obtain ⟨W16, hW⟩ : ∃ W16, v6.alloc (.cells d1.cells 24) = W16 := ⟨_, rfl⟩
  rw [hW] at V16 HB16  Hq10 ⊢
  clear hW hn hb V3 HB3
  generalize v6.heap.size = q10 at *
  have m0 := V16.out.m0; have m1 := V16.out.m1
  go_wp2_with (refine wpList_load_at 10 rfl rfl rfl Hq10.out ?_)
  refine (S2.out _).mono ?_
  rintro e v7 ⟨rfl, hb⟩
  clear m0 m1
  go_upto_region 8 with (refine wpList_store_row rfl 24 _ _ rfl _ d2.cells rfl rfl 24 _ (heap_alloc_new _ _) (size24 d2) (by rw [Cfg.size]; rfl) (Cfg.one d2) ?_; rw [World.setRow_alloc_new])
  have hn := hb.trans ((below_new v7 (.cells d2.cells 24)).mono hb.size)
  have V17 := Lib.hid (V16.out.step hn)
  have HB17 := Lib.hid (HB16.out.trans (hn.mono HB16.out.size))
  replace Hq10 := Lib.hid (Hq10.out.step hn)
  have Hq12 := Lib.hid (CAt.new v7 d2)
  obtain ⟨W17, hW⟩ : ∃ W17, v7.alloc (.cells d2.cells 24) = W17 := ⟨_, rfl⟩
  rw [hW] at V17 HB17 Hq10 Hq12 ⊢
  clear hW hn hb V16 HB16
  generalize v7.heap.size = q12 at *
  have m0 := V17.out.m0; have m1 := V17.out.m1
  go_wp2_with (refine wpList_load_at 3 rfl rfl rfl V17.out.cfg ?_)
  refine (S3.out _).mono ?_
  rintro e v8 ⟨rfl, hb⟩
  clear m0 m1
  go_upto_region 9 with (refine wpList_store_row rfl 24 _ _ rfl _ d3.cells rfl rfl 24 _ (heap_alloc_new _ _) (size24 d3) (by rw [Cfg.size]; rfl) (Cfg.one d3) ?_; rw [World.setRow_alloc_new])
  have hn := hb.trans ((below_new v8 (.cells d3.cells 24)).mono hb.size)
  have V18 := Lib.hid (V17.out.step hn)
  have HB18 := Lib.hid (HB17.out.trans (hn.mono HB17.out.size))
  replace Hq10 := Lib.hid (Hq10.out.step hn)
  replace Hq12 := Lib.hid (Hq12.out.step hn)
  have Hq14 := Lib.hid (CAt.new v8 d3)
  obtain ⟨W18, hW⟩ : ∃ W18, v8.alloc (.cells d3.cells 24) = W18 := ⟨_, rfl⟩
  rw [hW] at V18 HB18 Hq10 Hq12 Hq14 ⊢
  clear hW hn hb V17 HB17
  generalize v8.heap.size = q14 at *
  have m0 := V18.out.m0; have m1 := V18.out.m1
  go_wp2_with (refine wpList_load_at 14 rfl rfl rfl Hq14.out ?_)
  refine (S4.out _).mono ?_
  rintro e v9 ⟨rfl, hb⟩
  clear m0 m1
  go_upto_region 10 with (refine wpList_store_row rfl 24 _ _ rfl _ d2.cells rfl rfl 24 _ (heap_alloc_new _ _) (size24 d2) (by rw [Cfg.size]; rfl) (Cfg.one d2) ?_; rw [World.setRow_alloc_new])
  have hn := hb.trans ((below_new v9 (.cells d2.cells 24)).mono hb.size)
  have V19 := Lib.hid (V18.out.step hn)
  have HB19 := Lib.hid (HB18.out.trans (hn.mono HB18.out.size))
  replace Hq10 := Lib.hid (Hq10.out.step hn)
  replace Hq12 := Lib.hid (Hq12.out.step hn)
  replace Hq14 := Lib.hid (Hq14.out.step hn)
  have Hq16 := Lib.hid (CAt.new v9 d2)
  obtain ⟨W19, hW⟩ : ∃ W19, v9.alloc (.cells d2.cells 24) = W19 := ⟨_, rfl⟩
  rw [hW] at V19 HB19 Hq10 Hq12 Hq14 Hq16 ⊢
  clear hW hn hb V18 HB18
  generalize v9.heap.size = q16 at *
  have s1 : W19.cell? ⟨q12, 17, none⟩ = some (.int .u32 c.s) := by rw [Hq12.out.sec, HES.out]
  have s2 := V19.out.cfg.sec
  have hq := HQ.out
  go_upto_region 12 with (first | (refine wpList_load_at 12 rfl rfl rfl Hq12.out ?_) | (refine wpList_load_at 16 rfl rfl rfl Hq16.out ?_) | (refine wpList_neq_at 89 90 24 rfl rfl (c := d2) rfl rfl ?_))
  clear s1 s2 hq Hq12 Hq14 Hq16 S1 S2 S3 S4 HES HQ
  have HD := Hq10.out.all
  have HDA := Lib.hid HD
  have VA := Lib.hid (fun W (hb : Below W19.heap.size W19 W) => V19.out.step hb)
  clear HD V19 Hq10
  go_wp2_with fail
  go_loopg [18] 17 (fun gh s18 wx => ∃ j : Nat, j ≤ 17 ∧ gh = 17 - j ∧ s18 = .int .i64 (j : Int) ∧ Below W19.heap.size W19 wx)
  case atStart => exact ⟨0, Nat.zero_le _, rfl, rfl, Below.refl _ _⟩
  case round =>
    obtain ⟨j, hj, hgh, rfl, hcur⟩ := hrel
    have HG := Lib.hid hgh; have HC := Lib.hid hcur; clear hgh hcur
    by_cases hlt : j < 17
    · have b0 : (0 : Int) ≤ (j : Int) := by omega
      have b1 : (j : Int) < 17 := by omega
      have VJ := Lib.hid (VA.out _ HC.out)
      have DJ := Lib.hid (HDA.out _ HC.out)
      have CJ := Lib.hid (fun W => GC.out j hlt W)
      have CDJ := Lib.hid (fun W => GD.out j hlt W)
      have hdg := DG.out j
      have hni := HNI.out j hlt
      go_wp2_with fail
      refine AnyOrder.region_kinds2 10 [.eq (c.V), .eq (.slice (some ⟨g, 0, none⟩) 17 cap), .eq (.int .i64 (j : Int)), .eq (ptr g j), .eq (.string (nm j)), .eq (.tuple #[.int .i64 (c.get j), .bool true]), .eq (.tuple #[.int .i64 (c.get j), .bool true]), .eq (.int .i64 (c.get j)), .eq (.bool true), .eq (.int .i64 (c.get j))] (fun wx => Below wr.heap.size wr wx) (by kernel_rfl) (by kernel_rfl) rfl (by kernel_rfl) (below_drewN (Below.refl _ _) 1) (fun p _ _ hp => by simp at hp) ?_ ?_
      · intro i o listed a1 w2 hin ho st hl hdep
        match i, ho with
        | 0, ho => (injection ho with ho; subst ho; have ec : ∀ v, a1.eval (.const v) = v := fun _ => rfl; have ef : ∀ f, a1.eval (.func f) = .func (.func f) #[] #[] := fun _ => rfl; have e0 : a1.eval (.tmp 3) = ptr w.heap.size 0 := st.old hl 3 (by kernel_rfl); exact AnyOrder.step_value rfl (AnyOrder.wanted_none rfl) (c.V) (run_load_cfg e0 ((VJ.out.step st.inv).cfg)) st.inv (Below.refl _ _) rfl)
        | 1, ho => (injection ho with ho; subst ho; have ec : ∀ v, a1.eval (.const v) = v := fun _ => rfl; have ef : ∀ f, a1.eval (.func f) = .func (.func f) #[] #[] := fun _ => rfl; have e0 : a1.eval (.tmp 7) = .slice (some ⟨g, 0, none⟩) 17 cap := st.old hl 7 (by kernel_rfl); exact AnyOrder.step_value rfl (AnyOrder.wanted_none rfl) (.slice (some ⟨g, 0, none⟩) 17 cap) (AnyOrder.run_move e0) st.inv (Below.refl _ _) rfl)
        | 2, ho => (injection ho with ho; subst ho; have ec : ∀ v, a1.eval (.const v) = v := fun _ => rfl; have ef : ∀ f, a1.eval (.func f) = .func (.func f) #[] #[] := fun _ => rfl; have e0 : a1.eval (.tmp 18) = .int .i64 (j : Int) := st.old hl 18 (by kernel_rfl); exact AnyOrder.step_value rfl (AnyOrder.wanted_none rfl) (.int .i64 (j : Int)) (AnyOrder.run_move e0) st.inv (Below.refl _ _) rfl)
        | 3, ho => (injection ho with ho; subst ho; have ec : ∀ v, a1.eval (.const v) = v := fun _ => rfl; have ef : ∀ f, a1.eval (.func f) = .func (.func f) #[] #[] := fun _ => rfl; have e0 : a1.eval (.tmp 107) = .slice (some ⟨g, 0, none⟩) 17 cap := st.done 1 107 (hdep ⟨1, .data⟩ (by simp) rfl) rfl; have e1 : a1.eval (.tmp 108) = .int .i64 (j : Int) := st.done 2 108 (hdep ⟨2, .data⟩ (by simp) rfl) rfl; exact AnyOrder.step_value rfl (AnyOrder.wanted_none rfl) (ptr g j) (by generalize a1.eval = ρ at ec ef e0 e1 ⊢; simp [execOp, ec, ef, e0, e1, IntWalk.i64_left, b0, b1, go_sem]) st.inv (Below.refl _ _) rfl)
        | 4, ho => (injection ho with ho; subst ho; have ec : ∀ v, a1.eval (.const v) = v := fun _ => rfl; have ef : ∀ f, a1.eval (.func f) = .func (.func f) #[] #[] := fun _ => rfl; have e0 : a1.eval (.tmp 109) = ptr g j := st.done 3 109 (hdep ⟨3, .data⟩ (by simp) rfl) rfl; exact AnyOrder.step_value rfl (AnyOrder.wanted_none rfl) (.string (nm j)) (by generalize a1.eval = ρ at ec ef e0 ⊢; simp [execOp, ec, ef, e0, IntWalk.i64_left, (VJ.out.step st.inv).nms j hlt, go_sem]) st.inv (Below.refl _ _) rfl)
        | 5, ho => (injection ho with ho; subst ho; have ec : ∀ v, a1.eval (.const v) = v := fun _ => rfl; have ef : ∀ f, a1.eval (.func f) = .func (.func f) #[] #[] := fun _ => rfl; have e0 : a1.eval (.tmp 106) = c.V := st.done 0 106 (hdep ⟨0, .data⟩ (by simp) rfl) rfl; have e1 : a1.eval (.tmp 110) = .string (nm j) := st.done 4 110 (hdep ⟨4, .data⟩ (by simp) rfl) rfl; exact AnyOrder.step_call rfl (AnyOrder.wanted_none rfl) 18 #[c.V, .string (nm j)] (by generalize a1.eval = ρ at ec ef e0 e1 ⊢; simp [execOp, ec, ef, e0, e1, go_sem]) ((CJ.out _).mono (fun e w3 h => by obtain ⟨rfl, hb⟩ := h; exact ⟨_, rfl, st.inv.trans (hb.mono st.inv.size), hb, rfl⟩)))
        | 6, ho => (injection ho with ho; subst ho; have ec : ∀ v, a1.eval (.const v) = v := fun _ => rfl; have ef : ∀ f, a1.eval (.func f) = .func (.func f) #[] #[] := fun _ => rfl; have e0 : a1.eval (.tmp 111) = .tuple #[.int .i64 (c.get j), .bool true] := st.done 5 111 (hdep ⟨5, .data⟩ (by simp) rfl) rfl; exact AnyOrder.step_value rfl (AnyOrder.wanted_none rfl) (.tuple #[.int .i64 (c.get j), .bool true]) (AnyOrder.run_move e0) st.inv (Below.refl _ _) rfl)
        | 7, ho => (injection ho with ho; subst ho; have ec : ∀ v, a1.eval (.const v) = v := fun _ => rfl; have ef : ∀ f, a1.eval (.func f) = .func (.func f) #[] #[] := fun _ => rfl; have e0 : a1.eval (.tmp 105) = .tuple #[.int .i64 (c.get j), .bool true] := st.done 6 105 (hdep ⟨6, .data⟩ (by simp) rfl) rfl; exact AnyOrder.step_value rfl (AnyOrder.wanted_none rfl) (.int .i64 (c.get j)) (by generalize a1.eval = ρ at ec ef e0 ⊢; simp [execOp, ec, ef, e0, IntWalk.i64_left, go_sem]) st.inv (Below.refl _ _) rfl)
        | 8, ho => (injection ho with ho; subst ho; have ec : ∀ v, a1.eval (.const v) = v := fun _ => rfl; have ef : ∀ f, a1.eval (.func f) = .func (.func f) #[] #[] := fun _ => rfl; have e0 : a1.eval (.tmp 105) = .tuple #[.int .i64 (c.get j), .bool true] := st.done 6 105 (hdep ⟨6, .data⟩ (by simp) rfl) rfl; exact AnyOrder.step_value rfl (AnyOrder.wanted_none rfl) (.bool true) (by generalize a1.eval = ρ at ec ef e0 ⊢; simp [execOp, ec, ef, e0, IntWalk.i64_left, go_sem]) st.inv (Below.refl _ _) rfl)
        | 9, ho => (injection ho with ho; subst ho; have ec : ∀ v, a1.eval (.const v) = v := fun _ => rfl; have ef : ∀ f, a1.eval (.func f) = .func (.func f) #[] #[] := fun _ => rfl; have e0 : a1.eval (.tmp 112) = .int .i64 (c.get j) := st.done 7 112 (hdep ⟨7, .data⟩ (by simp) rfl) rfl; exact AnyOrder.step_value rfl (AnyOrder.wanted_none rfl) (.int .i64 (c.get j)) (by generalize a1.eval = ρ at ec ef e0 ⊢; simp [execOp, ec, ef, e0, IntWalk.i64_left, go_sem]) st.inv (Below.refl _ _) rfl)
        | n + 10, ho => exact absurd hin (by omega)
      · intro V15 hJ
        simp only [AnyOrder.finK, List.take_succ_cons, List.take_zero, List.drop_succ_cons, List.drop_zero, Act.put, List.setIfInBounds_toArray, List.set_cons_zero, List.set_cons_succ]
        have VJ2 := Lib.hid (VJ.out.step hJ)
        have DJ2 := Lib.hid (DJ.out.step hJ)
        have HC2 := Lib.hid (HC.out.trans (hJ.mono HC.out.size))
        clear hJ VJ DJ HC
        go_wp2_with fail
        refine AnyOrder.region_kinds2 10 [.eq (d1.V), .eq (.slice (some ⟨g, 0, none⟩) 17 cap), .eq (.int .i64 (j : Int)), .eq (ptr g j), .eq (.string (nm j)), .eq (.tuple #[.int .i64 (d1.get j), .bool true]), .eq (.tuple #[.int .i64 (d1.get j), .bool true]), .eq (.int .i64 (d1.get j)), .eq (.bool true), .eq (.int .i64 (d1.get j))] (fun wx => Below V15.heap.size V15 wx) (by kernel_rfl) (by kernel_rfl) rfl (by kernel_rfl) (below_drewN (Below.refl _ _) 1) (fun p _ _ hp => by simp at hp) ?_ ?_
        · intro i o listed a1 w2 hin ho st hl hdep
          match i, ho with
          | 0, ho => (injection ho with ho; subst ho; have ec : ∀ v, a1.eval (.const v) = v := fun _ => rfl; have ef : ∀ f, a1.eval (.func f) = .func (.func f) #[] #[] := fun _ => rfl; have e0 : a1.eval (.tmp 10) = ptr q10 0 := st.old hl 10 (by kernel_rfl); exact AnyOrder.step_value rfl (AnyOrder.wanted_none rfl) (d1.V) (run_load_cfg e0 (DJ2.out.step st.inv)) st.inv (Below.refl _ _) rfl)
          | 1, ho => (injection ho with ho; subst ho; have ec : ∀ v, a1.eval (.const v) = v := fun _ => rfl; have ef : ∀ f, a1.eval (.func f) = .func (.func f) #[] #[] := fun _ => rfl; have e0 : a1.eval (.tmp 7) = .slice (some ⟨g, 0, none⟩) 17 cap := st.old hl 7 (by kernel_rfl); exact AnyOrder.step_value rfl (AnyOrder.wanted_none rfl) (.slice (some ⟨g, 0, none⟩) 17 cap) (AnyOrder.run_move e0) st.inv (Below.refl _ _) rfl)
          | 2, ho => (injection ho with ho; subst ho; have ec : ∀ v, a1.eval (.const v) = v := fun _ => rfl; have ef : ∀ f, a1.eval (.func f) = .func (.func f) #[] #[] := fun _ => rfl; have e0 : a1.eval (.tmp 18) = .int .i64 (j : Int) := st.old hl 18 (by kernel_rfl); exact AnyOrder.step_value rfl (AnyOrder.wanted_none rfl) (.int .i64 (j : Int)) (AnyOrder.run_move e0) st.inv (Below.refl _ _) rfl)
          | 3, ho => (injection ho with ho; subst ho; have ec : ∀ v, a1.eval (.const v) = v := fun _ => rfl; have ef : ∀ f, a1.eval (.func f) = .func (.func f) #[] #[] := fun _ => rfl; have e0 : a1.eval (.tmp 116) = .slice (some ⟨g, 0, none⟩) 17 cap := st.done 1 116 (hdep ⟨1, .data⟩ (by simp) rfl) rfl; have e1 : a1.eval (.tmp 117) = .int .i64 (j : Int) := st.done 2 117 (hdep ⟨2, .data⟩ (by simp) rfl) rfl; exact AnyOrder.step_value rfl (AnyOrder.wanted_none rfl) (ptr g j) (by generalize a1.eval = ρ at ec ef e0 e1 ⊢; simp [execOp, ec, ef, e0, e1, IntWalk.i64_left, b0, b1, go_sem]) st.inv (Below.refl _ _) rfl)
          | 4, ho => (injection ho with ho; subst ho; have ec : ∀ v, a1.eval (.const v) = v := fun _ => rfl; have ef : ∀ f, a1.eval (.func f) = .func (.func f) #[] #[] := fun _ => rfl; have e0 : a1.eval (.tmp 118) = ptr g j := st.done 3 118 (hdep ⟨3, .data⟩ (by simp) rfl) rfl; exact AnyOrder.step_value rfl (AnyOrder.wanted_none rfl) (.string (nm j)) (by generalize a1.eval = ρ at ec ef e0 ⊢; simp [execOp, ec, ef, e0, IntWalk.i64_left, (VJ2.out.step st.inv).nms j hlt, go_sem]) st.inv (Below.refl _ _) rfl)
          | 5, ho => (injection ho with ho; subst ho; have ec : ∀ v, a1.eval (.const v) = v := fun _ => rfl; have ef : ∀ f, a1.eval (.func f) = .func (.func f) #[] #[] := fun _ => rfl; have e0 : a1.eval (.tmp 115) = d1.V := st.done 0 115 (hdep ⟨0, .data⟩ (by simp) rfl) rfl; have e1 : a1.eval (.tmp 119) = .string (nm j) := st.done 4 119 (hdep ⟨4, .data⟩ (by simp) rfl) rfl; exact AnyOrder.step_call rfl (AnyOrder.wanted_none rfl) 18 #[d1.V, .string (nm j)] (by generalize a1.eval = ρ at ec ef e0 e1 ⊢; simp [execOp, ec, ef, e0, e1, go_sem]) ((CDJ.out _).mono (fun e w3 h => by obtain ⟨rfl, hb⟩ := h; exact ⟨_, rfl, st.inv.trans (hb.mono st.inv.size), hb, rfl⟩)))
          | 6, ho => (injection ho with ho; subst ho; have ec : ∀ v, a1.eval (.const v) = v := fun _ => rfl; have ef : ∀ f, a1.eval (.func f) = .func (.func f) #[] #[] := fun _ => rfl; have e0 : a1.eval (.tmp 120) = .tuple #[.int .i64 (d1.get j), .bool true] := st.done 5 120 (hdep ⟨5, .data⟩ (by simp) rfl) rfl; exact AnyOrder.step_value rfl (AnyOrder.wanted_none rfl) (.tuple #[.int .i64 (d1.get j), .bool true]) (AnyOrder.run_move e0) st.inv (Below.refl _ _) rfl)
          | 7, ho => (injection ho with ho; subst ho; have ec : ∀ v, a1.eval (.const v) = v := fun _ => rfl; have ef : ∀ f, a1.eval (.func f) = .func (.func f) #[] #[] := fun _ => rfl; have e0 : a1.eval (.tmp 114) = .tuple #[.int .i64 (d1.get j), .bool true] := st.done 6 114 (hdep ⟨6, .data⟩ (by simp) rfl) rfl; exact AnyOrder.step_value rfl (AnyOrder.wanted_none rfl) (.int .i64 (d1.get j)) (by generalize a1.eval = ρ at ec ef e0 ⊢; simp [execOp, ec, ef, e0, IntWalk.i64_left, go_sem]) st.inv (Below.refl _ _) rfl)
          | 8, ho => (injection ho with ho; subst ho; have ec : ∀ v, a1.eval (.const v) = v := fun _ => rfl; have ef : ∀ f, a1.eval (.func f) = .func (.func f) #[] #[] := fun _ => rfl; have e0 : a1.eval (.tmp 114) = .tuple #[.int .i64 (d1.get j), .bool true] := st.done 6 114 (hdep ⟨6, .data⟩ (by simp) rfl) rfl; exact AnyOrder.step_value rfl (AnyOrder.wanted_none rfl) (.bool true) (by generalize a1.eval = ρ at ec ef e0 ⊢; simp [execOp, ec, ef, e0, IntWalk.i64_left, go_sem]) st.inv (Below.refl _ _) rfl)
          | 9, ho => (injection ho with ho; subst ho; have ec : ∀ v, a1.eval (.const v) = v := fun _ => rfl; have ef : ∀ f, a1.eval (.func f) = .func (.func f) #[] #[] := fun _ => rfl; have e0 : a1.eval (.tmp 121) = .int .i64 (d1.get j) := st.done 7 121 (hdep ⟨7, .data⟩ (by simp) rfl) rfl; exact AnyOrder.step_value rfl (AnyOrder.wanted_none rfl) (.int .i64 (d1.get j)) (by generalize a1.eval = ρ at ec ef e0 ⊢; simp [execOp, ec, ef, e0, IntWalk.i64_left, go_sem]) st.inv (Below.refl _ _) rfl)
          | n + 10, ho => exact absurd hin (by omega)
        · intro V16 hJ
          simp only [AnyOrder.finK, List.take_succ_cons, List.take_zero, List.drop_succ_cons, List.drop_zero, Act.put, List.setIfInBounds_toArray, List.set_cons_zero, List.set_cons_succ]
          have VJ3 := Lib.hid (VJ2.out.step hJ)
          have HC3 := Lib.hid (HC2.out.trans (hJ.mono HC2.out.size))
          have n1 := VJ3.out.nms j hlt
          have m0 := VJ3.out.m0
          clear hJ VJ2 DJ2 HC2
          by_cases hjk : j = k0
          · subst hjk
            rw [if_pos rfl] at hdg
            rw [hdg]
            have hs : ((nm j).toList == (nm j).toList) = true := by simp
            clear hdg hni
            go_wp2_with fail
            go_roundg (17 - (j + 1))
            case measure => have := HG.out; omega
            case rel => exact ⟨j + 1, by omega, rfl, by go_num, HC3.out⟩
          · rw [if_neg hjk] at hdg
            rw [hdg]
            have hs : ((nm j).toList == (nm k0).toList) = false := text_ne (fun e => hjk (hni e))
            clear hdg hni
            go_wp2_with fail
            go_roundg (17 - (j + 1))
            case measure => have := HG.out; omega
            case rel => exact ⟨j + 1, by omega, rfl, by go_num, HC3.out⟩
    · obtain rfl : j = 17 := by omega
      have VJ := Lib.hid (VA.out _ HC.out)
      have DJ := Lib.hid (HDA.out _ HC.out)
      have HBJ := Lib.hid (HB19.out.trans (HC.out.mono HB19.out.size))
      clear VA HDA HB19 HC HG hlt hj GC GD DG HNI
      go_wp2_with (refine wpList_load_at 3 rfl rfl rfl VJ.out.cfg ?_)
      refine (G0.out _).mono ?_
      rintro e v20 ⟨rfl, hb⟩
      replace VJ := Lib.hid (VJ.out.step hb)
      replace DJ := Lib.hid (DJ.out.step hb)
      replace HBJ := Lib.hid (HBJ.out.trans (hb.mono HBJ.out.size))
      clear hb
      go_wp2_with (refine wpList_load_at 10 rfl rfl rfl DJ.out ?_)
      refine (S5.out _).mono ?_
      rintro e v21 ⟨rfl, hb⟩
      go_upto_region 21 with (refine wpList_store_row rfl 24 _ _ rfl _ c.cells rfl rfl 24 _ (heap_alloc_new _ _) (size24 c) (by rw [Cfg.size]; rfl) (Cfg.one c) ?_; rw [World.setRow_alloc_new])
      have hn := hb.trans ((below_new v21 (.cells c.cells 24)).mono hb.size)
      replace VJ := Lib.hid (VJ.out.step hn)
      replace HBJ := Lib.hid (HBJ.out.trans (hn.mono HBJ.out.size))
      have HH := Lib.hid (CAt.new v21 c)
      obtain ⟨W22, hW⟩ : ∃ W22, v21.alloc (.cells c.cells 24) = W22 := ⟨_, rfl⟩
      rw [hW] at VJ HBJ HH ⊢
      clear hW hn hb DJ
      generalize v21.heap.size = q25 at *
      go_wp2_with (first | (refine wpList_load_at 25 rfl rfl rfl HH.out ?_) | (refine wpList_load_at 3 rfl rfl rfl VJ.out.cfg ?_) | (refine wpList_eql_at 161 162 24 rfl rfl (c := c) rfl rfl ?_))
      go_ret
      exact ⟨rfl, HBJ.out⟩
theorem siteSets_walk (c : Cfg) (z0 z1 x0 x1 : Int) (w : World) (_ : inI64 z0) (_ : inI64 z1) (_ : inI64 x0) (_ : inI64 x1) : Calls Try.prog 6 #[c.V, .agg #[.int .i64 z0, .int .i64 z1], .agg #[.int .i64 x0, .int .i64 x1]] w fun e w' => e = .returned (.bool true) ∧ Below w.heap.size w w' := by
  obtain ⟨k0, h0, e0, _⟩ := at_of z0
  obtain ⟨k1, h1, e1, _⟩ := at_of z1
  by_cases h : k0 = k1
  · exact sets_same c z0 z1 x0 x1 w k0 k1 h0 h1 e0 e1 h
  · exact sets_apart c z0 z1 x0 x1 w k0 k1 h0 h1 e0 e1 h
end Go.Proofs.Ythnjghkloodblaa
