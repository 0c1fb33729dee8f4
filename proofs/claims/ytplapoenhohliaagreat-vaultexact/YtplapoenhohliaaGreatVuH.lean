import Derived.Test.YtplapoenhohliaaGreatOrder8
import Derived.Deep.CutBlock
namespace Go.Proofs.YtplapoenhohliaaGreat
open Go.RowKit Go.Lib
set_option linter.unusedVariables false
set_option linter.unusedSimpArgs false
set_option maxRecDepth 100000 in
set_option maxHeartbeats 16000000 in
theorem exact_ok (c : Cfg) (A : Option Addr) (cap : Nat) (ds : List Dd) (w : World) (hc : okc c = true) (hA : DdsAt w w.heap.size A ds) (hl : ds.length ≤ maxLen) : Calls Tryz.prog 3 #[c.V, .slice A ds.length cap] w (Yes w true) := by
 have H := Lib.hid (new1 w c.cells 24)
 have HA := Lib.hid hA; clear hA
 have HL : Hid (ds.length ≤ 9223372036854775807) := Lib.hid (by unfold maxLen at hl; omega)
 clear hl
 obtain ⟨N, hN⟩ : ∃ N, ds.length = N := ⟨_, rfl⟩
 rw [hN] at HL ⊢
 have HN := Lib.hid hN; clear hN
 have CA := Lib.hid awake_any
 have CN := Lib.hid (fun (W : World) (hb : Below w.heap.size w W) => VS.new hc hb)
 have CG := Lib.hid (fun W => by have h := good_any c W; rw [hc] at h; exact h : ∀ W, Calls Tryz.prog 6 #[c.V] W fun e w' => e = .returned (.bool true) ∧ Below W.heap.size W w')
 have HSB : Hid ((newV c).s.b = newB c ∧ (newV c).s.t = 0 ∧ (newV c).n = 0 ∧ (newV c).m = 0 ∧ (newV c).v = .slice none 0 0) := Lib.hid ⟨rfl, rfl, rfl, rfl, rfl⟩
 clear hc
 go_enter Tryz.func3, Tryz.ntmps3
 go_upto_region 1 with fail
 obtain ⟨W, hW⟩ : ∃ W, w.alloc (.cells c.cells 24) = W := ⟨_, rfl⟩
 rw [hW] at H ⊢; clear hW
 go_upto_region 3 with (go_at_call 4; (with_reducible refine (CA.out _).mono ?_); rintro e W1 ⟨rfl, hb1⟩)
 have HC : Hid (CAt W1 w.heap.size c) := Lib.hid (At.step H.out.2 hb1)
 have HB := Lib.hid (H.out.1.trans (hb1.mono H.out.1.size)); clear H CA hb1
 go_upto_region 4 with (first | ((with_reducible apply wpList_load_cat (h := HC.out)); exact rfl; exact rfl; exact rfl) | (go_at_call 5; (with_reducible refine (CN.out _ HB.out).mono ?_); rintro e v0 ⟨g, rfl, hv0, hb0⟩))
 have HC0 := Lib.hid (At.step HC.out hb0); have HV0 := Lib.hid hv0; clear HC HB hb0 hv0 CN
 go_upto_region 6 with (first | ((with_reducible apply wpList_load_cat (h := HC0.out)); exact rfl; exact rfl; exact rfl) | (go_at_call 6; (with_reducible refine (CG.out _).mono ?_); rintro e v1 ⟨rfl, hb1⟩))
 have HC1 := Lib.hid (At.step HC0.out hb1); have HV1 := Lib.hid (HV0.out.step hb1); clear HC0 HV0 hb1 CG
 go_upto_region 7 with (first | ((with_reducible apply wpList_load_cat (h := HC1.out)); exact rfl; exact rfl; exact rfl) | (go_at_call 13; (with_reducible refine (rnew_any c _).mono ?_); rintro e v2 ⟨q6, s6, t6, rfl, hq6, hu6, ha6, hb2⟩))
 have HV2 := Lib.hid (HV1.out.step hb2); have HU2 := Lib.hid hu6; have HA2 := Lib.hid ha6
 have HQ6 : Hid (w.heap.size ≤ q6) := Lib.hid (Nat.le_trans HV1.out.bel.size hq6)
 clear HC1 HV1 hb2 hu6 ha6 hq6
 obtain ⟨x0, hx0⟩ : ∃ x0, newV c = x0 := ⟨_, rfl⟩
 rw [hx0] at HV2 HSB
 clear hx0
 have CR := Lib.hid (fun (W : World) (h : VS c w W g x0 [] []) => h.read)
 go_upto_region 8 with (first | (go_at_call 12; first | (with_reducible refine (CR.out _ HV2.out).mono ?_; rintro e v3 ⟨rfl, hb3⟩; have HV3 := Lib.hid (HV2.out.step hb3)) | (with_reducible refine (CR.out _ HV3.out).mono ?_; rintro e v4 ⟨rfl, hb4⟩; have HV4 := Lib.hid (HV3.out.step hb4)) | (with_reducible refine (CR.out _ HV4.out).mono ?_; rintro e v5 ⟨rfl, hb5⟩; have HV5 := Lib.hid (HV4.out.step hb5))) | ((with_reducible apply wpList_build_3 (s := x0.s)); exact rfl; exact rfl; exact rfl; exact rfl; exact rfl) | ((with_reducible apply wpList_store_3 (s := x0.s)); exact rfl; exact rfl; exact rfl; exact rfl))
 have hb6 := hb3.trans ((hb4.trans (hb5.mono hb4.size)).mono hb3.size)
 have bd := below_new v5 (.cells (snaps3 x0.s) 56)
 have HX : Hid (XS c w (v5.alloc (.cells (snaps3 x0.s) 56)) g x0 [] [] v5.heap.size [x0.s, x0.s, x0.s] q6 ⟨newU c, s6, t6, yrOf c, 0, .slice none 0 0⟩) := Lib.hid ⟨HV5.out.step bd, ArAt.new v5 x0.s, fun s m => by (have e : s = x0.s := by simpa using m); subst e; exact (Old.now HV5.out).step bd, (At.step HU2.out hb6).step bd, (HA2.out.step hb6).step bd, Sh.OwO.nil _ _ _, fun k hk => by simp [Value.ownBlock] at hk, by rw [HSB.out.1]; exact Tie.new c, HSB.out.2.1.symm, HQ6.out, HV5.out.bel.size⟩
 obtain ⟨W1', hW⟩ : ∃ W1', v5.alloc (.cells (snaps3 x0.s) 56) = W1' := ⟨_, rfl⟩
 rw [hW] at HX ⊢
 clear hW bd hb3 hb4 hb5 hb6 HV2 HV3 HV4 HV5 HU2 HA2 HQ6 CR
 generalize v5.heap.size = q7 at *
 generalize (⟨newU c, s6, t6, yrOf c, 0, .slice none 0 0⟩ : Uv) = u0 at *
 go_wp2_with fail
 go_loopg [8, 9, 10] N (fun gh s8 s9 s10 wx => ∃ (j : Nat) (x : Vt) (hs xs : List Cg) (ss : List Sp) (uu : Uv), j ≤ N ∧ j ≤ 80 ∧ gh = N - j ∧ s8 = .int .i64 x.n ∧ s9 = .int .i64 x.m ∧ s10 = .int .i64 (j : Int) ∧ XS c w wx g x hs xs q7 ss q6 uu ∧ hs.length ≤ j ∧ (0 ≤ x.n ∧ x.n ≤ j) ∧ (0 ≤ x.m ∧ x.m ≤ j) ∧ (0 ≤ x.s.t ∧ x.s.t ≤ j))
 case atStart => exact ⟨0, x0, [], [], [x0.s, x0.s, x0.s], u0, Nat.zero_le _, by omega, rfl, by rw [HSB.out.2.2.1], by rw [HSB.out.2.2.2.1], rfl, HX.out, Nat.le_refl _, by have := HSB.out.2.2.1; omega, by have := HSB.out.2.2.2.1; omega, by have := HSB.out.2.1; omega⟩
 case round =>
  clear HX HSB
  obtain ⟨j, x, hs, xs, ss, uu, hj, hj80, hg, rfl, rfl, rfl, hxs, hhj, hn, hm, ht⟩ := hrel
  have HG := Lib.hid hg; have HX := Lib.hid hxs; have HHJ := Lib.hid hhj; have HN2 := Lib.hid hn; have HM2 := Lib.hid hm; have HT2 := Lib.hid ht
  clear hg hxs hhj hn hm ht
  have b4 : (0 : Int) ≤ (j : Int) := by omega
  by_cases hlt : j < N ∧ j < 80
  ·obtain ⟨b1, o1, rfl, l1, k1⟩ := HA.out j (by rw [HN.out]; exact hlt.1)
   have b3 : (j : Int) < (N : Int) := by omega
   have b6 : (j : Int) < 80 := by omega
   have HJ := Lib.hid hlt; clear hlt hj hj80
   have KR := Lib.hid (rng_below k1 l1 HX.out.vs.bel)
   clear k1 l1
   generalize ds.getD j zd = y at *
   go_upto_region 14 with (first | ((with_reducible apply wpList_load_dd (y := y) (h := KR.out)); exact rfl; exact rfl; exact rfl) | ((with_reducible apply wpList_store_ddnew (c := y)); exact rfl; exact rfl; exact rfl; exact rfl))
   have bd := below_new wr (.cells y.cells 58)
   have HDD0 := At.new wr 58 y.cells
   obtain ⟨V1, hW⟩ : ∃ V1, wr.alloc (.cells y.cells 58) = V1 := ⟨_, rfl⟩
   rw [hW] at bd HDD0 ⊢; clear hW KR
   have HX1 := Lib.hid (HX.out.step bd); have HD1 : Hid (DdAt V1 wr.heap.size y) := Lib.hid HDD0
   clear HX bd HDD0
   generalize wr.heap.size = q11 at *
   obtain ⟨k, hk, hk3⟩ := who_num3 y.who
   have kk1 := HD1.out.k1
   go_upto_region 15 with fail
   rw [hk]
   clear kk1
   obtain ⟨s, hsk⟩ : ∃ s, ss[k]? = some s := ⟨_, List.getElem?_eq_getElem (by rw [HX1.out.ar.len]; exact hk3)⟩
   have hsm : s ∈ ss := List.mem_of_getElem? hsk
   have HSM := Lib.hid hsm
   have HKR := Lib.hid (HX1.out.ar.read hsk)
   have b7 : (0 : Int) ≤ (k : Int) := by omega
   have b8 : (k : Int) < 3 := by omega
   have HK3 := Lib.hid hk3
   clear hk hsm hsk hk3
   go_upto_region 16 with (first | ((with_reducible apply wpList_load_spm (c := s) (h := HKR.out)); exact rfl; exact rfl; exact rfl) | ((with_reducible apply wpList_store_spnew (c := s)); exact rfl; exact rfl; exact rfl; exact rfl))
   have bd := below_new V1 (.cells s.cells 44)
   have HS2 : Hid (SpAt (V1.alloc (.cells s.cells 44)) V1.heap.size s) := Lib.hid (At.new _ _ _)
   have HX2 := Lib.hid (HX1.out.step bd); have HD2 := Lib.hid (At.step HD1.out bd)
   obtain ⟨V2, hW⟩ : ∃ V2, V1.alloc (.cells s.cells 44) = V2 := ⟨_, rfl⟩
   rw [hW] at HS2 HX2 HD2 ⊢; clear hW bd HX1 HD1 HKR
   generalize V1.heap.size = q13 at *
   have HSR := Lib.hid (Sp.bk (SpAt.rng HS2.out))
   go_upto_region 17 with (first | ((with_reducible apply wpList_load_bkm (b := s.b) (s := s.o) (t := s.p) (h := HSR.out)); exact rfl; exact rfl; exact rfl) | ((with_reducible apply wpList_store_bknew (b := s.b) (s := s.o) (t := s.p)); exact rfl; exact rfl; exact rfl; exact rfl))
   obtain ⟨V3, hV3⟩ : ∃ V3, V2.alloc (.cells (s.b.cells s.o s.p) 37) = V3 := ⟨_, rfl⟩
   have hs3 : V3.heap.size = V2.heap.size + 1 := by rw [← hV3]; simp
   have hn2 := new2 V2 (s.b.cells s.o s.p) zg.cells 37 48
   rw [hV3, ← hs3] at hn2
   rw [hV3]
   clear hV3
   have HS3 := Lib.hid hs3
   have HN3 := Lib.hid hn2
   clear hs3 hn2
   go_upto_region 18 with (first | ((with_reducible apply wpList_build_zg); exact rfl; exact rfl) | ((with_reducible apply wpList_store_cgnew (c := zg)); exact rfl; exact rfl; exact rfl; exact rfl))
   have hs3 := HS3.out
   have HJS := Lib.hid (by have h := JS.new (ch := zg) (W2 := V3.alloc (.cells zg.cells 48)) HX2.out HD2.out HS2.out HN3.out.1 HN3.out.2.1 (by rw [← hs3]; exact HN3.out.2.2) ((HX2.out.old s HSM.out).1.step HN3.out.1); rw [← hs3] at h; exact h : JS c w (V3.alloc (.cells zg.cells 48)) g x hs xs q7 ss q6 uu q11 q13 V2.heap.size V3.heap.size y s s.b s.o s.p zg)
   obtain ⟨V4, hW⟩ : ∃ V4, V3.alloc (.cells zg.cells 48) = V4 := ⟨_, rfl⟩
   rw [hW] at HJS ⊢
   clear hW HN3 HS3 hs3 HX2 HD2 HS2 HSR
   generalize V3.heap.size = q15 at *
   generalize V2.heap.size = q14 at *
   have kk0 := HJS.out.dd.k0
   by_cases hk1 : y.kind = 1
   ·as_aux_lemma =>
     go_upto_if 112 with fail
     clear kk0
     have d1 : (y.kind == 1) = true := by simpa using hk1
     clear hk1
     have CR := Lib.hid HJS.out.st.vs.read
     generalize y.kind = yk at *
     go_upto_region 12 with (first | (go_at_call 12; (with_reducible refine (CR.out).mono ?_); rintro e V5 ⟨rfl, hb5⟩; have HJ5 := Lib.hid (HJS.out.step hb5); have HST := Lib.hid (HJ5.out.st.reads HK3.out); have HTH := Lib.hid HST.out.2) | ((with_reducible apply wpList_store_spm (s := x.s) (ht := HTH.out)); exact rfl; exact rfl; exact rfl; exact rfl))
     have HX6 := Lib.hid HST.out.1
     clear HST HTH HJ5 HJS CR hb5 HSM
     go_wp2_with fail
     go_roundg (N - (j + 1))
     case measure => have := HG.out; have := HJ.out; omega
     case rel => exact ⟨j + 1, x, hs, xs, ss.set k x.s, uu, by have := HJ.out; omega, by have := HJ.out; omega, rfl, rfl, rfl, rfl, HX6.out, by have := HHJ.out; omega, by have := HN2.out; omega, by have := HM2.out; omega, by have := HT2.out; omega⟩
   by_cases hk7 : y.kind = 7
   ·as_aux_lemma =>
     have hk := hk7
     clear hk7 hk1
     go_upto_if 112 with fail
     clear kk0
     have d1 : (y.kind == 1) = false := by rw [hk]; rfl
     have d2 : (y.kind == 2) = false := by rw [hk]; rfl
     have d3 : (y.kind == 3) = false := by rw [hk]; rfl
     have d4 : (y.kind == 4) = false := by rw [hk]; rfl
     have d5 : (y.kind == 5) = false := by rw [hk]; rfl
     have d6 : (y.kind == 6) = false := by rw [hk]; rfl
     have d7 : (y.kind == 7) = true := by rw [hk]; rfl
     have d8 : (y.kind == 8) = false := by rw [hk]; rfl
     have d9 : (y.kind == 9) = false := by rw [hk]; rfl
     clear hk
     have k45 := UvAt.k45 HJS.out.st.uv
     have f45 := At.frozen HJS.out.st.uv 45
     have HNO := Lib.hid HJS.out.st.now
     have hw5 : IntKind.i64.wrap (uu.now + 1) = uu.now + 1 := IntWalk.i64_in _ (by have := HNO.out; have := HT2.out; have := HJ.out; omega)
     go_upto_region 34 with fail
     have HM5 := Lib.hid (HJS.out.st.ms.tick (uu.now + 1))
     obtain ⟨V5, hW⟩ : ∃ V5, V4.setCell ⟨q6, 45, none⟩ (.int .i64 (uu.now + 1)) = V5 := ⟨_, rfl⟩
     rw [hW] at HM5 ⊢
     clear hW k45 f45 hw5 HJS HSM
     obtain ⟨n5, hn5⟩ : ∃ n5, uu.now + 1 = n5 := ⟨_, rfl⟩
     rw [hn5] at HM5
     have hne : n5 = x.s.t + 1 := by rw [← hn5, HNO.out]
     clear hn5
     obtain ⟨u5, hu5⟩ : ∃ u5 : Uv, ({ uu with now := n5 } : Uv) = u5 := ⟨_, rfl⟩
     rw [hu5] at HM5
     have HU5 : Hid (u5.now = n5) := Lib.hid (by rw [← hu5])
     clear hu5
     obtain ⟨x1, hx1⟩ : ∃ x1 : Vt, ({ x with s := { x.s with t := x.s.t + 1 } } : Vt) = x1 := ⟨_, rfl⟩
     have HX1 : Hid (x1.s.t = n5 ∧ x1.n = x.n ∧ x1.m = x.m) := Lib.hid (by subst hx1; exact ⟨hne.symm, rfl, rfl⟩)
     have CT := Lib.hid (fun (W : World) (h : MS c w W g x hs xs q7 ss q6 u5 x.s.b hs xs) => h.tickV hx1 (HU5.out.trans hne) HT2.out.1 (by have := HT2.out; have := HJ.out; omega))
     have HNE := Lib.hid hne
     clear hx1 hne
     refine AnyOrder.region_two 13 [.eq (ptr g 0), .eq (.bool true), .eq (.bool false), .eq (.bool false), .eq (ptr g 0), .eq (x1.s.V), .eq (.int .i64 n5), .eq (ptr q6 0), .eq (ptr q6 0), .eq (ptr q6 45), .eq (.int .i64 n5), .eq (.bool false), .eq (.bool false)] 1 (fun b wx => TJ c w g x x1 hs xs q7 ss q6 u5 b wx) (by kernel_rfl) (by decide) (by kernel_rfl) rfl (by kernel_rfl) (TJ.pre (HM5.out.step (below_drewN (Below.refl _ _) 1))) (fun p _ _ hp => by simp at hp) ?_ ?_ ?_
     ·intro i o listed a1 w2 hin hif ho st hl hdep hcl
      match i, ho with
      | 0, ho => (injection ho with ho; subst ho; have e0 : a1.eval (.tmp 5) = ptr g 0 := st.old hl 5 (by kernel_rfl); exact AnyOrder.sv rfl rfl (ptr g 0) (AnyOrder.run_move e0) st.inv (Below.refl _ _) rfl)
      | 1, ho => exact absurd rfl hif
      | 2, ho => (injection ho with ho; subst ho; have ec := AnyOrder.evc a1; have ef := AnyOrder.evf a1; have e0 : a1.eval (.tmp 169) = .bool true := st.done 1 169 (hdep ⟨1, .data⟩ (by simp) rfl) rfl; exact AnyOrder.sv rfl rfl (.bool false) (by generalize a1.eval = ρ at ec ef e0 ⊢; simp [execOp, ec, ef, e0, IntWalk.i64_left, go_sem]) st.inv (Below.refl _ _) rfl)
      | 3, ho => (injection ho with ho; subst ho; have e0 : a1.eval (.tmp 170) = .bool false := st.done 2 170 (hdep ⟨2, .data⟩ (by simp) rfl) rfl; exact AnyOrder.sv rfl rfl (.bool false) (AnyOrder.run_move e0) st.inv (Below.refl _ _) rfl)
      | 4, ho => (injection ho with ho; subst ho; have e0 : a1.eval (.tmp 5) = ptr g 0 := st.old hl 5 (by kernel_rfl); have eg : a1.eval (.tmp 171) = .bool false := st.done 3 171 (hdep ⟨3, .guard⟩ (by simp) rfl) rfl; exact AnyOrder.step_value rfl ((AnyOrder.wanted_of rfl rfl eg).trans rfl) (ptr g 0) (AnyOrder.run_move e0) st.inv (Below.refl _ _) rfl)
      | 5, ho => (injection ho with ho; subst ho; have ec := AnyOrder.evc a1; have ef := AnyOrder.evf a1; have e0 : a1.eval (.tmp 172) = ptr g 0 := st.done 4 172 (hdep ⟨4, .data⟩ (by simp) rfl) rfl; have eg : a1.eval (.tmp 171) = .bool false := st.done 3 171 (hdep ⟨3, .chain⟩ (by simp) rfl) rfl; have l3 : listed 3 = true := hdep ⟨3, .guard⟩ (by simp) rfl; have l1 : listed 1 = true := hcl 3 _ l3 rfl ⟨1, .chain⟩ (by simp) rfl; have hT := st.inv; rw [l1] at hT; exact AnyOrder.step_call rfl ((AnyOrder.wanted_of rfl rfl eg).trans rfl) 12 #[ptr g 0] (by generalize a1.eval = ρ at ec ef e0 ⊢; simp [execOp, ec, ef, e0, go_sem]) ((hT.yes rfl).vs.read.mono (fun e w4 h => by obtain ⟨rfl, hb⟩ := h; exact ⟨_, rfl, st.inv.step hb, hb, rfl⟩)))
      | 6, ho => (injection ho with ho; subst ho; have e0 : a1.eval (.tmp 173) = x1.s.V := st.done 5 173 (hdep ⟨5, .data⟩ (by simp) rfl) rfl; have eg : a1.eval (.tmp 171) = .bool false := st.done 3 171 (hdep ⟨3, .guard⟩ (by simp) rfl) rfl; exact AnyOrder.step_value rfl ((AnyOrder.wanted_of rfl rfl eg).trans rfl) (.int .i64 n5) (run_fieldn e0 HX1.out.1) st.inv (Below.refl _ _) rfl)
      | 7, ho => (injection ho with ho; subst ho; have e0 : a1.eval (.tmp 6) = ptr q6 0 := st.old hl 6 (by kernel_rfl); have eg : a1.eval (.tmp 171) = .bool false := st.done 3 171 (hdep ⟨3, .guard⟩ (by simp) rfl) rfl; exact AnyOrder.step_value rfl ((AnyOrder.wanted_of rfl rfl eg).trans rfl) (ptr q6 0) (AnyOrder.run_move e0) st.inv (Below.refl _ _) rfl)
      | 8, ho => (injection ho with ho; subst ho; have ec := AnyOrder.evc a1; have ef := AnyOrder.evf a1; have e0 : a1.eval (.tmp 175) = ptr q6 0 := st.done 7 175 (hdep ⟨7, .data⟩ (by simp) rfl) rfl; have eg : a1.eval (.tmp 171) = .bool false := st.done 3 171 (hdep ⟨3, .guard⟩ (by simp) rfl) rfl; exact AnyOrder.step_value rfl ((AnyOrder.wanted_of rfl rfl eg).trans rfl) (ptr q6 0) (by generalize a1.eval = ρ at ec ef e0 ⊢; simp [execOp, ec, ef, e0, IntWalk.i64_left, go_sem]) st.inv (Below.refl _ _) rfl)
      | 9, ho => (injection ho with ho; subst ho; have ec := AnyOrder.evc a1; have ef := AnyOrder.evf a1; have e0 : a1.eval (.tmp 176) = ptr q6 0 := st.done 8 176 (hdep ⟨8, .data⟩ (by simp) rfl) rfl; have eg : a1.eval (.tmp 171) = .bool false := st.done 3 171 (hdep ⟨3, .guard⟩ (by simp) rfl) rfl; exact AnyOrder.step_value rfl ((AnyOrder.wanted_of rfl rfl eg).trans rfl) (ptr q6 45) (by generalize a1.eval = ρ at ec ef e0 ⊢; simp [execOp, ec, ef, e0, IntWalk.i64_left, go_sem]) st.inv (Below.refl _ _) rfl)
      | 10, ho => (injection ho with ho; subst ho; have ec := AnyOrder.evc a1; have ef := AnyOrder.evf a1; have e0 : a1.eval (.tmp 177) = ptr q6 45 := st.done 9 177 (hdep ⟨9, .data⟩ (by simp) rfl) rfl; have eg : a1.eval (.tmp 171) = .bool false := st.done 3 171 (hdep ⟨3, .guard⟩ (by simp) rfl) rfl; exact AnyOrder.step_value rfl ((AnyOrder.wanted_of rfl rfl eg).trans rfl) (.int .i64 n5) (by have hk : w2.cell? ⟨q6, 45, none⟩ = some (.int .i64 n5) := (by rw [← HU5.out]; exact UvAt.k45 st.inv.uv); generalize a1.eval = ρ at ec ef e0 ⊢; simp [execOp, e0, go_sem, hk]) st.inv (Below.refl _ _) rfl)
      | 11, ho => (injection ho with ho; subst ho; have ec := AnyOrder.evc a1; have ef := AnyOrder.evf a1; have e0 : a1.eval (.tmp 174) = .int .i64 n5 := st.done 6 174 (hdep ⟨6, .data⟩ (by simp) rfl) rfl; have e1 : a1.eval (.tmp 178) = .int .i64 n5 := st.done 10 178 (hdep ⟨10, .data⟩ (by simp) rfl) rfl; have eg : a1.eval (.tmp 171) = .bool false := st.done 3 171 (hdep ⟨3, .guard⟩ (by simp) rfl) rfl; exact AnyOrder.step_value rfl ((AnyOrder.wanted_of rfl rfl eg).trans rfl) (.bool false) (by generalize a1.eval = ρ at ec ef e0 e1 ⊢; simp [execOp, ec, ef, e0, e1, IntWalk.i64_left, go_sem]) st.inv (Below.refl _ _) rfl)
      | 12, ho => (injection ho with ho; subst ho; have ec := AnyOrder.evc a1; have ef := AnyOrder.evf a1; have e0 : a1.eval (.tmp 171) = .bool false := st.done 3 171 (hdep ⟨3, .data⟩ (by simp) rfl) rfl; have e1 : a1.eval (.tmp 179) = .bool false := st.done 11 179 (hdep ⟨11, .data⟩ (by simp) rfl) rfl; exact AnyOrder.sv rfl rfl (.bool false) (by generalize a1.eval = ρ at ec ef e0 e1 ⊢; simp [execOp, ec, ef, e0, e1, IntWalk.i64_left, go_sem]) st.inv (Below.refl _ _) rfl)
      | n + 13, ho => exact absurd hin (by omega)
     ·intro o listed a1 w2 ho st hl hdep
      (injection ho with ho; subst ho; have ec := AnyOrder.evc a1; have ef := AnyOrder.evf a1; have e0 : a1.eval (.tmp 168) = ptr g 0 := st.done 0 168 (hdep ⟨0, .data⟩ (by simp) rfl) rfl; exact AnyOrder.turn_call rfl (AnyOrder.wanted_none rfl) 8 #[ptr g 0] (by generalize a1.eval = ρ at ec ef e0 ⊢; simp [execOp, ec, ef, e0, go_sem]) ((CT.out _ (st.inv.no rfl)).mono (fun e w4 h => by obtain ⟨rfl, hf⟩ := h; exact ⟨_, rfl, hf, rfl⟩)))
     ·intro V6 hJ6
      simp only [AnyOrder.finK, List.take_succ_cons, List.take_zero, List.drop_succ_cons, List.drop_zero, Act.put, List.setIfInBounds_toArray, List.set_cons_zero, List.set_cons_succ]
      have HX6 := Lib.hid (hJ6.yes rfl)
      clear hJ6 CT HM5
      go_wp2_with fail
      go_roundg (N - (j + 1))
      case measure => have := HG.out; have := HJ.out; omega
      case rel => exact ⟨j + 1, x1, hs, xs, ss, u5, by have := HJ.out; omega, by have := HJ.out; omega, rfl, by rw [HX1.out.2.1], by rw [HX1.out.2.2], rfl, HX6.out, by have := HHJ.out; omega, by have := HN2.out; have := HX1.out; omega, by have := HM2.out; have := HX1.out; omega, by have := HT2.out; have := HX1.out; have := HNE.out; omega⟩
   by_cases hk8 : y.kind = 8
   ·as_aux_lemma =>
     have hk := hk8
     clear hk8 hk7 hk1
     have d1 : (y.kind == 1) = false := by rw [hk]; rfl
     have d2 : (y.kind == 2) = false := by rw [hk]; rfl
     have d3 : (y.kind == 3) = false := by rw [hk]; rfl
     have d4 : (y.kind == 4) = false := by rw [hk]; rfl
     have d5 : (y.kind == 5) = false := by rw [hk]; rfl
     have d6 : (y.kind == 6) = false := by rw [hk]; rfl
     have d7 : (y.kind == 7) = false := by rw [hk]; rfl
     have d8 : (y.kind == 8) = true := by rw [hk]; rfl
     have d9 : (y.kind == 9) = false := by rw [hk]; rfl
     clear hk
     go_upto_region 37 with fail
     clear kk0
     have HL2 : Hid (hs.length ≤ 200) := Lib.hid (by have := HHJ.out; have := HJ.out; omega)
     have HXL : Hid (xs.length ≤ 1000) := Lib.hid (by have := HJS.out.st.vs.len; have := HL2.out; omega)
     have HNO := Lib.hid HJS.out.st.now
     have HRI := Lib.hid HJS.out.st.vs.rises
     obtain ⟨O8, c8, hv8, _⟩ := HJS.out.st.uo.form
     have hlen := since_len xs y.n
     obtain ⟨U8, hU8⟩ : ∃ U8, upto xs y.n = U8 := ⟨_, rfl⟩
     obtain ⟨X, hX⟩ : ∃ X, xs.length = X := ⟨_, rfl⟩
     obtain ⟨Y, hY⟩ : ∃ Y, (since xs y.n).length = Y := ⟨_, rfl⟩
     rw [hX] at hv8
     rw [hX, hY, hU8] at hlen
     have hw8 : IntKind.i64.wrap ((X : Int) - (Y : Int)) = (U8 : Int) := by rw [hlen]; exact IntWalk.i64_in _ (by have := HXL.out; omega)
     have HY := Lib.hid hY; have HU8 := Lib.hid hU8; have HV8 := Lib.hid hv8
     have CF := Lib.hid (fun (W : World) (h : JS c w W g x hs xs q7 ss q6 uu q11 q13 q14 q15 y s s.b s.o s.p zg) => h.forget HL2.out hU8)
     clear hX hY hU8 hlen hv8
     refine AnyOrder.region_two 16 [.eq (ptr g 0), .eq (ptr q11 10), .eq (.int .i64 y.n), .eq (.int .i64 (U8 : Int)), .eq (ptr q6 0), .eq (ptr q6 0), .eq (ptr q6 46), .eq (.slice O8 X c8), .eq (.int .i64 (X : Int)), .eq (ptr q6 0), .eq (ptr q11 10), .eq (.int .i64 y.n), .of (fun v _ => ∃ O c, v = .slice O Y c), .eq (.int .i64 (Y : Int)), .eq (.int .i64 (U8 : Int)), .eq (.bool false)] 3 (fun b wx => FJ c w g x hs xs q7 ss q6 uu q11 q13 q14 q15 y s s.b s.o s.p b wx) (by kernel_rfl) (by decide) (by kernel_rfl) rfl (by kernel_rfl) (FJ.pre (HJS.out.step (below_drewN (Below.refl _ _) 1))) (by intro p wa wb hp v hv; simp at hp; subst hp; exact hv) ?_ ?_ ?_
     ·intro i o listed a1 w2 hin hif ho st hl hdep hcl
      match i, ho with
      | 0, ho => (injection ho with ho; subst ho; have e0 : a1.eval (.tmp 5) = ptr g 0 := st.old hl 5 (by kernel_rfl); exact AnyOrder.sv rfl rfl (ptr g 0) (AnyOrder.run_move e0) st.inv (Below.refl _ _) rfl)
      | 1, ho => (injection ho with ho; subst ho; have ec := AnyOrder.evc a1; have ef := AnyOrder.evf a1; have e0 : a1.eval (.tmp 11) = ptr q11 0 := st.old hl 11 (by kernel_rfl); exact AnyOrder.sv rfl rfl (ptr q11 10) (by generalize a1.eval = ρ at ec ef e0 ⊢; simp [execOp, ec, ef, e0, IntWalk.i64_left, go_sem]) st.inv (Below.refl _ _) rfl)
      | 2, ho => (injection ho with ho; subst ho; have ec := AnyOrder.evc a1; have ef := AnyOrder.evf a1; have e0 : a1.eval (.tmp 184) = ptr q11 10 := st.done 1 184 (hdep ⟨1, .data⟩ (by simp) rfl) rfl; exact AnyOrder.sv rfl rfl (.int .i64 y.n) (by have hk := DdAt.k10 st.inv.dd; generalize a1.eval = ρ at ec ef e0 ⊢; simp [execOp, e0, go_sem, hk]) st.inv (Below.refl _ _) rfl)
      | 3, ho => exact absurd rfl hif
      | 4, ho => (injection ho with ho; subst ho; have e0 : a1.eval (.tmp 6) = ptr q6 0 := st.old hl 6 (by kernel_rfl); exact AnyOrder.sv rfl rfl (ptr q6 0) (AnyOrder.run_move e0) st.inv (Below.refl _ _) rfl)
      | 5, ho => (injection ho with ho; subst ho; have ec := AnyOrder.evc a1; have ef := AnyOrder.evf a1; have e0 : a1.eval (.tmp 187) = ptr q6 0 := st.done 4 187 (hdep ⟨4, .data⟩ (by simp) rfl) rfl; exact AnyOrder.sv rfl rfl (ptr q6 0) (by generalize a1.eval = ρ at ec ef e0 ⊢; simp [execOp, ec, ef, e0, IntWalk.i64_left, go_sem]) st.inv (Below.refl _ _) rfl)
      | 6, ho => (injection ho with ho; subst ho; have ec := AnyOrder.evc a1; have ef := AnyOrder.evf a1; have e0 : a1.eval (.tmp 188) = ptr q6 0 := st.done 5 188 (hdep ⟨5, .data⟩ (by simp) rfl) rfl; exact AnyOrder.sv rfl rfl (ptr q6 46) (by generalize a1.eval = ρ at ec ef e0 ⊢; simp [execOp, ec, ef, e0, IntWalk.i64_left, go_sem]) st.inv (Below.refl _ _) rfl)
      | 7, ho => (injection ho with ho; subst ho; have ec := AnyOrder.evc a1; have ef := AnyOrder.evf a1; have e0 : a1.eval (.tmp 189) = ptr q6 46 := st.done 6 189 (hdep ⟨6, .data⟩ (by simp) rfl) rfl; exact AnyOrder.sv rfl rfl (.slice O8 X c8) (by have hk : w2.cell? ⟨q6, 46, none⟩ = some (.slice O8 X c8) := (by rw [← HV8.out]; exact UvAt.k46 st.inv.uv); generalize a1.eval = ρ at ec ef e0 ⊢; simp [execOp, e0, go_sem, hk]) st.inv (Below.refl _ _) rfl)
      | 8, ho => (injection ho with ho; subst ho; have ec := AnyOrder.evc a1; have ef := AnyOrder.evf a1; have e0 : a1.eval (.tmp 190) = .slice O8 X c8 := st.done 7 190 (hdep ⟨7, .data⟩ (by simp) rfl) rfl; exact AnyOrder.sv rfl rfl (.int .i64 (X : Int)) (by generalize a1.eval = ρ at ec ef e0 ⊢; simp [execOp, ec, ef, e0, IntWalk.i64_left, go_sem]) st.inv (Below.refl _ _) rfl)
      | 9, ho => (injection ho with ho; subst ho; have e0 : a1.eval (.tmp 6) = ptr q6 0 := st.old hl 6 (by kernel_rfl); exact AnyOrder.sv rfl rfl (ptr q6 0) (AnyOrder.run_move e0) st.inv (Below.refl _ _) rfl)
      | 10, ho => (injection ho with ho; subst ho; have ec := AnyOrder.evc a1; have ef := AnyOrder.evf a1; have e0 : a1.eval (.tmp 11) = ptr q11 0 := st.old hl 11 (by kernel_rfl); exact AnyOrder.sv rfl rfl (ptr q11 10) (by generalize a1.eval = ρ at ec ef e0 ⊢; simp [execOp, ec, ef, e0, IntWalk.i64_left, go_sem]) st.inv (Below.refl _ _) rfl)
      | 11, ho => (injection ho with ho; subst ho; have ec := AnyOrder.evc a1; have ef := AnyOrder.evf a1; have e0 : a1.eval (.tmp 193) = ptr q11 10 := st.done 10 193 (hdep ⟨10, .data⟩ (by simp) rfl) rfl; exact AnyOrder.sv rfl rfl (.int .i64 y.n) (by have hk := DdAt.k10 st.inv.dd; generalize a1.eval = ρ at ec ef e0 ⊢; simp [execOp, e0, go_sem, hk]) st.inv (Below.refl _ _) rfl)
      | 12, ho => (injection ho with ho; subst ho; have ec := AnyOrder.evc a1; have ef := AnyOrder.evf a1; have e0 : a1.eval (.tmp 192) = ptr q6 0 := st.done 9 192 (hdep ⟨9, .data⟩ (by simp) rfl) rfl; have e1 : a1.eval (.tmp 194) = .int .i64 y.n := st.done 11 194 (hdep ⟨11, .data⟩ (by simp) rfl) rfl; exact AnyOrder.step_call rfl (AnyOrder.wanted_none rfl) 17 #[ptr q6 0, .int .i64 y.n] (by generalize a1.eval = ρ at ec ef e0 e1 ⊢; simp [execOp, ec, ef, e0, e1, go_sem]) ((rsince_any (n := y.n) st.inv.uv st.inv.uo.rd HRI.out HXL.out).mono (fun e w4 h => by obtain ⟨vz, rfl, ho, hb⟩ := h; obtain ⟨O6, c6, rfl, _⟩ := ho.form; exact ⟨_, rfl, st.inv.step hb, hb, ⟨O6, c6, by rw [HY.out]⟩⟩)))
      | 13, ho => (injection ho with ho; subst ho; have ec := AnyOrder.evc a1; have ef := AnyOrder.evf a1; have e0 := st.done 12 195 (hdep ⟨12, .data⟩ (by simp) rfl) rfl; exact AnyOrder.sv rfl rfl (.int .i64 (Y : Int)) (by obtain ⟨O, cc, hO⟩ := (show ∃ O c, a1.eval (.tmp 195) = .slice O Y c from e0); clear e0; generalize a1.eval = ρ at ec ef hO ⊢; simp [execOp, ec, ef, hO, go_sem]) st.inv (Below.refl _ _) rfl)
      | 14, ho => (injection ho with ho; subst ho; have ec := AnyOrder.evc a1; have ef := AnyOrder.evf a1; have e0 : a1.eval (.tmp 191) = .int .i64 (X : Int) := st.done 8 191 (hdep ⟨8, .data⟩ (by simp) rfl) rfl; have e1 : a1.eval (.tmp 196) = .int .i64 (Y : Int) := st.done 13 196 (hdep ⟨13, .data⟩ (by simp) rfl) rfl; exact AnyOrder.sv rfl rfl (.int .i64 (U8 : Int)) (by generalize a1.eval = ρ at ec ef e0 e1 ⊢; simp [execOp, ec, ef, e0, e1, IntWalk.i64_left, hw8, go_sem]) st.inv (Below.refl _ _) rfl)
      | 15, ho => (injection ho with ho; subst ho; have ec := AnyOrder.evc a1; have ef := AnyOrder.evf a1; have e0 : a1.eval (.tmp 186) = .int .i64 (U8 : Int) := st.done 3 186 (hdep ⟨3, .data⟩ (by simp) rfl) rfl; have e1 : a1.eval (.tmp 197) = .int .i64 (U8 : Int) := st.done 14 197 (hdep ⟨14, .data⟩ (by simp) rfl) rfl; exact AnyOrder.sv rfl rfl (.bool false) (by generalize a1.eval = ρ at ec ef e0 e1 ⊢; simp [execOp, ec, ef, e0, e1, IntWalk.i64_left, go_sem]) st.inv (Below.refl _ _) rfl)
      | n + 16, ho => exact absurd hin (by omega)
     ·intro o listed a1 w2 ho st hl hdep
      (injection ho with ho; subst ho; have ec := AnyOrder.evc a1; have ef := AnyOrder.evf a1; have e0 : a1.eval (.tmp 183) = ptr g 0 := st.done 0 183 (hdep ⟨0, .data⟩ (by simp) rfl) rfl; have e1 : a1.eval (.tmp 185) = .int .i64 y.n := st.done 2 185 (hdep ⟨2, .data⟩ (by simp) rfl) rfl; exact AnyOrder.turn_call rfl (AnyOrder.wanted_none rfl) 10 #[ptr g 0, .int .i64 y.n] (by generalize a1.eval = ρ at ec ef e0 e1 ⊢; simp [execOp, ec, ef, e0, e1, go_sem]) ((CF.out _ (st.inv.no rfl)).mono (fun e w4 h => by obtain ⟨rfl, hf⟩ := h; exact ⟨_, rfl, hf, rfl⟩)))
     ·intro V5 hJ5
      simp only [AnyOrder.finK, List.take_succ_cons, List.take_zero, List.drop_succ_cons, List.drop_zero, Act.put, List.setIfInBounds_toArray, List.set_cons_zero, List.set_cons_succ]
      intro v12 h12
      obtain ⟨O6, c6, rfl⟩ := h12
      obtain ⟨v8, hns⟩ := hJ5.yes rfl
      have HNS := Lib.hid hns
      clear hns hJ5 HJS CF HSM hw8 HV8 HU8
      go_upto_region 39 with fail
      have k10 := DdAt.k10 HNS.out.dd
      have CS := Lib.hid (rsince_any (n := y.n) HNS.out.ms.uv HNS.out.ms.uo.rd HRI.out HXL.out)
      go_wp2_with (go_at_call 17; (with_reducible refine (CS.out).mono ?_); rintro e V6 ⟨v6, rfl, ho6, hb6⟩; obtain ⟨O9, c9, rfl, hx9⟩ := ho6.form; have k46 := UvAt.k46 (At.step HNS.out.ms.uv hb6); have f46 := At.frozen (At.step HNS.out.ms.uv hb6) 46; have HX9 := Lib.hid (HNS.out.ms.keep hb6 ho6 HNO.out))
      go_roundg (N - (j + 1))
      case measure => have := HG.out; have := HJ.out; omega
      case rel => exact ⟨j + 1, { x with v := v8 }, hs, since xs y.n, ss, { uu with v := _ }, by have := HJ.out; omega, by have := HJ.out; omega, rfl, rfl, rfl, rfl, HX9.out, by have := HHJ.out; omega, (by have := HN2.out; refine ⟨this.1, Int.le_trans this.2 (by omega)⟩), (by have := HM2.out; refine ⟨this.1, Int.le_trans this.2 (by omega)⟩), (by have := HT2.out; refine ⟨this.1, Int.le_trans this.2 (by omega)⟩)⟩
   by_cases hd : y.kind = 2 ∨ y.kind = 3 ∨ y.kind = 4 ∨ y.kind = 5 ∨ y.kind = 6 ∨ y.kind = 9
   ·as_aux_lemma =>
     clear hk1 hk7 hk8
     have HKD := Lib.hid hd
     clear hd
     go_upto_block 2 with fail
     clear kk0
     go_cut [16] from 102 to 210 (fun s16 wx => ∃ (d : Bk) (o' p' : Option Addr) (ch : Cg) (e : Int), s16 = .int .i64 e ∧ JS c w wx g x hs xs q7 ss q6 uu q11 q13 q14 q15 y s d o' p' ch ∧ (y.kind ≠ 9 → e = 0 → applyB s.b ch = (d, 0)) ∧ (y.kind = 9 → e = 0 ∧ d = s.b ∧ ch = ⟨y.n, zk, 1, 1⟩))
     case first =>
      rcases HKD.out with hk | hk | hk | hk | hk | hk
      ·as_aux_lemma =>
        clear HKD
        have d1 : (y.kind == 1) = false := by rw [hk]; rfl
        have d2 : (y.kind == 2) = true := by rw [hk]; rfl
        have d3 : (y.kind == 3) = false := by rw [hk]; rfl
        have d4 : (y.kind == 4) = false := by rw [hk]; rfl
        have d5 : (y.kind == 5) = false := by rw [hk]; rfl
        have d6 : (y.kind == 6) = false := by rw [hk]; rfl
        have d7 : (y.kind == 7) = false := by rw [hk]; rfl
        have d8 : (y.kind == 8) = false := by rw [hk]; rfl
        have d9 : (y.kind == 9) = false := by rw [hk]; rfl
        have HN9 : Hid (y.kind ≠ 9) := Lib.hid (by rw [hk]; decide)
        clear hk
        have HSR := Lib.hid (Sp.bk (SpAt.rng HJS.out.sp))
        have HXR := Lib.hid (DdAt.x HJS.out.dd)
        have HOLD := Lib.hid (HJS.out.st.old s HSM.out)
        have kt : V4.cell? ⟨q13, 50, none⟩ = some (.int .i64 s.t) := by have h := Sp.kt (SpAt.rng HJS.out.sp); rwa [Nat.zero_add] at h
        obtain ⟨n1, hn1⟩ : ∃ n1 : Int, 1 + (k : Int) = n1 := ⟨_, rfl⟩
        have hw1 : IntKind.i64.wrap (1 + (k : Int)) = n1 := by rw [← hn1]; exact IntWalk.i64_in _ (by omega)
        obtain ⟨rr, hrr⟩ : ∃ rr, placeB s.b y.x n1 s.t = rr := ⟨_, rfl⟩
        have CC := Lib.hid (by have h := placeBk_any (x := y.x) (n := n1) (m := s.t) HOLD.out.1 HOLD.out.ok; rw [hrr] at h; exact h : Calls Tryz.prog 14 #[s.b.V s.o s.p, y.x.V, .int .i64 n1, .int .i64 s.t] V4 (B3 V4 rr))
        obtain ⟨d6, ch6, e6⟩ := rr
        have HRES : Hid (e6 = 0 → applyB s.b ch6 = (d6, 0)) := Lib.hid (fun h => by subst h; exact place_apply hrr)
        clear hrr hn1
        go_wp2_with (first | ((with_reducible apply wpList_load_bkm (b := s.b) (s := s.o) (t := s.p) (h := HSR.out)); exact rfl; exact rfl; exact rfl) | ((with_reducible apply wpList_load_kpart (c := y.x) (h := HXR.out)); exact rfl; exact rfl; exact rfl) | (go_at_call 14; (with_reducible refine (CC.out).mono ?_); rintro e V6 ⟨o6, p6, rfl, ha6, hb6⟩; have HJ6 := Lib.hid (HJS.out.step hb6); have HQ := Lib.hid HJ6.out.bk; have HR : Hid (CgAt (V6.setRow q14 (d6.cells o6 p6)) q15 zg) := Lib.hid (At.farRow HJ6.out.cg (At.ne HJ6.out.cg HJ6.out.bk (by decide)))) | ((with_reducible apply wpList_store_bk (b := d6) (s := o6) (t := p6) (hq := HQ.out)); exact rfl; exact rfl; exact rfl; exact rfl) | ((with_reducible apply wpList_store_cg (c := ch6) (hq := HR.out)); exact rfl; exact rfl; exact rfl; exact rfl))
        have HI6 := Lib.hid (HJ6.out.put ha6 ch6)
        go_meet
        exact ⟨d6, o6, p6, ch6, e6, rfl, HI6.out, fun _ => HRES.out, fun h => absurd h HN9.out⟩
      ·as_aux_lemma =>
        clear HKD
        have d1 : (y.kind == 1) = false := by rw [hk]; rfl
        have d2 : (y.kind == 2) = false := by rw [hk]; rfl
        have d3 : (y.kind == 3) = true := by rw [hk]; rfl
        have d4 : (y.kind == 4) = false := by rw [hk]; rfl
        have d5 : (y.kind == 5) = false := by rw [hk]; rfl
        have d6 : (y.kind == 6) = false := by rw [hk]; rfl
        have d7 : (y.kind == 7) = false := by rw [hk]; rfl
        have d8 : (y.kind == 8) = false := by rw [hk]; rfl
        have d9 : (y.kind == 9) = false := by rw [hk]; rfl
        have HN9 : Hid (y.kind ≠ 9) := Lib.hid (by rw [hk]; decide)
        clear hk
        have HSR := Lib.hid (Sp.bk (SpAt.rng HJS.out.sp))
        have HXR := Lib.hid (DdAt.x HJS.out.dd)
        have HOLD := Lib.hid (HJS.out.st.old s HSM.out)
        have kt : V4.cell? ⟨q13, 50, none⟩ = some (.int .i64 s.t) := by have h := Sp.kt (SpAt.rng HJS.out.sp); rwa [Nat.zero_add] at h
        obtain ⟨n1, hn1⟩ : ∃ n1 : Int, 1 + (k : Int) = n1 := ⟨_, rfl⟩
        have hw1 : IntKind.i64.wrap (1 + (k : Int)) = n1 := by rw [← hn1]; exact IntWalk.i64_in _ (by omega)
        obtain ⟨rr, hrr⟩ : ∃ rr, placeB s.b y.x n1 s.t = rr := ⟨_, rfl⟩
        have CC := Lib.hid (by have h := placeBk_any (x := y.x) (n := n1) (m := s.t) HOLD.out.1 HOLD.out.ok; rw [hrr] at h; exact h : Calls Tryz.prog 14 #[s.b.V s.o s.p, y.x.V, .int .i64 n1, .int .i64 s.t] V4 (B3 V4 rr))
        obtain ⟨d6, ch6, e6⟩ := rr
        have HRES : Hid (e6 = 0 → applyB s.b ch6 = (d6, 0)) := Lib.hid (fun h => by subst h; exact place_apply hrr)
        clear hrr hn1
        go_wp2_with (first | ((with_reducible apply wpList_load_bkm (b := s.b) (s := s.o) (t := s.p) (h := HSR.out)); exact rfl; exact rfl; exact rfl) | ((with_reducible apply wpList_load_kpart (c := y.x) (h := HXR.out)); exact rfl; exact rfl; exact rfl) | (go_at_call 14; (with_reducible refine (CC.out).mono ?_); rintro e V6 ⟨o6, p6, rfl, ha6, hb6⟩; have HJ6 := Lib.hid (HJS.out.step hb6); have HQ := Lib.hid HJ6.out.bk; have HR : Hid (CgAt (V6.setRow q14 (d6.cells o6 p6)) q15 zg) := Lib.hid (At.farRow HJ6.out.cg (At.ne HJ6.out.cg HJ6.out.bk (by decide)))) | ((with_reducible apply wpList_store_bk (b := d6) (s := o6) (t := p6) (hq := HQ.out)); exact rfl; exact rfl; exact rfl; exact rfl) | ((with_reducible apply wpList_store_cg (c := ch6) (hq := HR.out)); exact rfl; exact rfl; exact rfl; exact rfl))
        have HI6 := Lib.hid (HJ6.out.put ha6 ch6)
        go_meet
        exact ⟨d6, o6, p6, ch6, e6, rfl, HI6.out, fun _ => HRES.out, fun h => absurd h HN9.out⟩
      ·as_aux_lemma =>
        clear HKD
        have d1 : (y.kind == 1) = false := by rw [hk]; rfl
        have d2 : (y.kind == 2) = false := by rw [hk]; rfl
        have d3 : (y.kind == 3) = false := by rw [hk]; rfl
        have d4 : (y.kind == 4) = true := by rw [hk]; rfl
        have d5 : (y.kind == 5) = false := by rw [hk]; rfl
        have d6 : (y.kind == 6) = false := by rw [hk]; rfl
        have d7 : (y.kind == 7) = false := by rw [hk]; rfl
        have d8 : (y.kind == 8) = false := by rw [hk]; rfl
        have d9 : (y.kind == 9) = false := by rw [hk]; rfl
        have HN9 : Hid (y.kind ≠ 9) := Lib.hid (by rw [hk]; decide)
        clear hk
        have HSR := Lib.hid (Sp.bk (SpAt.rng HJS.out.sp))
        have HXR := Lib.hid (DdAt.x HJS.out.dd)
        have HOLD := Lib.hid (HJS.out.st.old s HSM.out)
        have kt : V4.cell? ⟨q13, 50, none⟩ = some (.int .i64 s.t) := by have h := Sp.kt (SpAt.rng HJS.out.sp); rwa [Nat.zero_add] at h
        obtain ⟨n1, hn1⟩ : ∃ n1 : Int, 1 + (k : Int) = n1 := ⟨_, rfl⟩
        have hw1 : IntKind.i64.wrap (1 + (k : Int)) = n1 := by rw [← hn1]; exact IntWalk.i64_in _ (by omega)
        obtain ⟨rr, hrr⟩ : ∃ rr, placeB s.b y.x n1 s.t = rr := ⟨_, rfl⟩
        have CC := Lib.hid (by have h := placeBk_any (x := y.x) (n := n1) (m := s.t) HOLD.out.1 HOLD.out.ok; rw [hrr] at h; exact h : Calls Tryz.prog 14 #[s.b.V s.o s.p, y.x.V, .int .i64 n1, .int .i64 s.t] V4 (B3 V4 rr))
        obtain ⟨d6, ch6, e6⟩ := rr
        have HRES : Hid (e6 = 0 → applyB s.b ch6 = (d6, 0)) := Lib.hid (fun h => by subst h; exact place_apply hrr)
        clear hrr hn1
        go_wp2_with (first | ((with_reducible apply wpList_load_bkm (b := s.b) (s := s.o) (t := s.p) (h := HSR.out)); exact rfl; exact rfl; exact rfl) | ((with_reducible apply wpList_load_kpart (c := y.x) (h := HXR.out)); exact rfl; exact rfl; exact rfl) | (go_at_call 14; (with_reducible refine (CC.out).mono ?_); rintro e V6 ⟨o6, p6, rfl, ha6, hb6⟩; have HJ6 := Lib.hid (HJS.out.step hb6); have HQ := Lib.hid HJ6.out.bk; have HR : Hid (CgAt (V6.setRow q14 (d6.cells o6 p6)) q15 zg) := Lib.hid (At.farRow HJ6.out.cg (At.ne HJ6.out.cg HJ6.out.bk (by decide)))) | ((with_reducible apply wpList_store_bk (b := d6) (s := o6) (t := p6) (hq := HQ.out)); exact rfl; exact rfl; exact rfl; exact rfl) | ((with_reducible apply wpList_store_cg (c := ch6) (hq := HR.out)); exact rfl; exact rfl; exact rfl; exact rfl))
        have HI6 := Lib.hid (HJ6.out.put ha6 ch6)
        go_meet
        exact ⟨d6, o6, p6, ch6, e6, rfl, HI6.out, fun _ => HRES.out, fun h => absurd h HN9.out⟩
      ·as_aux_lemma =>
        clear HKD
        have d1 : (y.kind == 1) = false := by rw [hk]; rfl
        have d2 : (y.kind == 2) = false := by rw [hk]; rfl
        have d3 : (y.kind == 3) = false := by rw [hk]; rfl
        have d4 : (y.kind == 4) = false := by rw [hk]; rfl
        have d5 : (y.kind == 5) = true := by rw [hk]; rfl
        have d6 : (y.kind == 6) = false := by rw [hk]; rfl
        have d7 : (y.kind == 7) = false := by rw [hk]; rfl
        have d8 : (y.kind == 8) = false := by rw [hk]; rfl
        have d9 : (y.kind == 9) = false := by rw [hk]; rfl
        have HN9 : Hid (y.kind ≠ 9) := Lib.hid (by rw [hk]; decide)
        clear hk
        have HSR := Lib.hid (Sp.bk (SpAt.rng HJS.out.sp))
        have k10 := DdAt.k10 HJS.out.dd
        have HOLD := Lib.hid (HJS.out.st.old s HSM.out)
        obtain ⟨n1, hn1⟩ : ∃ n1 : Int, 1 + (k : Int) = n1 := ⟨_, rfl⟩
        have hw1 : IntKind.i64.wrap (1 + (k : Int)) = n1 := by rw [← hn1]; exact IntWalk.i64_in _ (by omega)
        obtain ⟨rr, hrr⟩ : ∃ rr, cancelB s.b y.n n1 = rr := ⟨_, rfl⟩
        have CC := Lib.hid (by have h := cancelBk_any y.n n1 HOLD.out.1 HOLD.out.ok; rw [hrr] at h; exact h : Calls Tryz.prog 15 #[s.b.V s.o s.p, .int .i64 y.n, .int .i64 n1] V4 (B3 V4 rr))
        obtain ⟨d6, ch6, e6⟩ := rr
        have HRES : Hid (e6 = 0 → applyB s.b ch6 = (d6, 0)) := Lib.hid (fun h => by subst h; obtain ⟨_, j5, _, hm5⟩ := HOLD.out; exact hm5.cancel hrr)
        clear hrr hn1
        go_wp2_with (first | ((with_reducible apply wpList_load_bkm (b := s.b) (s := s.o) (t := s.p) (h := HSR.out)); exact rfl; exact rfl; exact rfl) | (go_at_call 15; (with_reducible refine (CC.out).mono ?_); rintro e V6 ⟨o6, p6, rfl, ha6, hb6⟩; have HJ6 := Lib.hid (HJS.out.step hb6); have HQ := Lib.hid HJ6.out.bk; have HR : Hid (CgAt (V6.setRow q14 (d6.cells o6 p6)) q15 zg) := Lib.hid (At.farRow HJ6.out.cg (At.ne HJ6.out.cg HJ6.out.bk (by decide)))) | ((with_reducible apply wpList_store_bk (b := d6) (s := o6) (t := p6) (hq := HQ.out)); exact rfl; exact rfl; exact rfl; exact rfl) | ((with_reducible apply wpList_store_cg (c := ch6) (hq := HR.out)); exact rfl; exact rfl; exact rfl; exact rfl))
        have HI6 := Lib.hid (HJ6.out.put ha6 ch6)
        go_meet
        exact ⟨d6, o6, p6, ch6, e6, rfl, HI6.out, fun _ => HRES.out, fun h => absurd h HN9.out⟩
      ·as_aux_lemma =>
        clear HKD
        have d1 : (y.kind == 1) = false := by rw [hk]; rfl
        have d2 : (y.kind == 2) = false := by rw [hk]; rfl
        have d3 : (y.kind == 3) = false := by rw [hk]; rfl
        have d4 : (y.kind == 4) = false := by rw [hk]; rfl
        have d5 : (y.kind == 5) = false := by rw [hk]; rfl
        have d6 : (y.kind == 6) = true := by rw [hk]; rfl
        have d7 : (y.kind == 7) = false := by rw [hk]; rfl
        have d8 : (y.kind == 8) = false := by rw [hk]; rfl
        have d9 : (y.kind == 9) = false := by rw [hk]; rfl
        have HN9 : Hid (y.kind ≠ 9) := Lib.hid (by rw [hk]; decide)
        clear hk
        have HSR := Lib.hid (Sp.bk (SpAt.rng HJS.out.sp))
        have k10 := DdAt.k10 HJS.out.dd
        have HOLD := Lib.hid (HJS.out.st.old s HSM.out)
        obtain ⟨rr, hrr⟩ : ∃ rr, setB s.b y.n 2 = rr := ⟨_, rfl⟩
        have CC := Lib.hid (by have h := setBk_any y.n 2 HOLD.out.1 HOLD.out.ok; rw [hrr] at h; exact h : Calls Tryz.prog 16 #[s.b.V s.o s.p, .int .i64 y.n, .int .i64 2] V4 (B3 V4 rr))
        obtain ⟨d6, ch6, e6⟩ := rr
        have HRES : Hid (e6 = 0 → applyB s.b ch6 = (d6, 0)) := Lib.hid (fun h => by subst h; exact set_apply hrr)
        clear hrr
        go_wp2_with (first | ((with_reducible apply wpList_load_bkm (b := s.b) (s := s.o) (t := s.p) (h := HSR.out)); exact rfl; exact rfl; exact rfl) | (go_at_call 16; (with_reducible refine (CC.out).mono ?_); rintro e V6 ⟨o6, p6, rfl, ha6, hb6⟩; have HJ6 := Lib.hid (HJS.out.step hb6); have HQ := Lib.hid HJ6.out.bk; have HR : Hid (CgAt (V6.setRow q14 (d6.cells o6 p6)) q15 zg) := Lib.hid (At.farRow HJ6.out.cg (At.ne HJ6.out.cg HJ6.out.bk (by decide)))) | ((with_reducible apply wpList_store_bk (b := d6) (s := o6) (t := p6) (hq := HQ.out)); exact rfl; exact rfl; exact rfl; exact rfl) | ((with_reducible apply wpList_store_cg (c := ch6) (hq := HR.out)); exact rfl; exact rfl; exact rfl; exact rfl))
        have HI6 := Lib.hid (HJ6.out.put ha6 ch6)
        go_meet
        exact ⟨d6, o6, p6, ch6, e6, rfl, HI6.out, fun _ => HRES.out, fun h => absurd h HN9.out⟩
      ·as_aux_lemma =>
        clear HKD
        have d1 : (y.kind == 1) = false := by rw [hk]; rfl
        have d2 : (y.kind == 2) = false := by rw [hk]; rfl
        have d3 : (y.kind == 3) = false := by rw [hk]; rfl
        have d4 : (y.kind == 4) = false := by rw [hk]; rfl
        have d5 : (y.kind == 5) = false := by rw [hk]; rfl
        have d6 : (y.kind == 6) = false := by rw [hk]; rfl
        have d7 : (y.kind == 7) = false := by rw [hk]; rfl
        have d8 : (y.kind == 8) = false := by rw [hk]; rfl
        have d9 : (y.kind == 9) = true := by rw [hk]; rfl
        have k10 := DdAt.k10 HJS.out.dd
        have HCG := Lib.hid HJS.out.cg
        have HN9 := Lib.hid hk
        clear hk
        go_wp2_with (first | ((with_reducible apply wpList_build_c9); exact rfl; exact rfl; exact rfl) | ((with_reducible apply wpList_store_cg (c := (⟨y.n, zk, 1, 1⟩ : Cg)) (hq := HCG.out)); exact rfl; exact rfl; exact rfl; exact rfl))
        have HI6 := Lib.hid (HJS.out.putC ⟨y.n, zk, 1, 1⟩)
        go_meet
        exact ⟨s.b, s.o, s.p, _, 0, rfl, HI6.out, fun h => absurd HN9.out h, fun _ => ⟨rfl, rfl, rfl⟩⟩
     case rest =>
      clear HJS
      obtain ⟨d, o', p', ch, e, rfl, hjs, hap, hnine⟩ := hcut
      have HJS := Lib.hid hjs; have HAP := Lib.hid hap; have HNI := Lib.hid hnine
      clear hjs hap hnine
      by_cases he : e = 0
      ·subst he
       have HAP2 : Hid (y.kind ≠ 9 → applyB s.b ch = (d, 0)) := Lib.hid (fun h => HAP.out h rfl)
       have HNI2 : Hid (y.kind = 9 → d = s.b ∧ ch = ⟨y.n, zk, 1, 1⟩) := Lib.hid (fun h => (HNI.out h).2)
       have CC := Lib.hid (HJS.out.commit HSM.out HAP2.out HNI2.out (by have := HN2.out; have := HJ.out; omega) (by have := HM2.out; have := HJ.out; omega) (by have := HHJ.out; have := HJ.out; omega))
       have HSL := Lib.hid (SpAt.rng HJS.out.sp)
       have HKY : Hid (wc.rangeAt q13 29 s.k.cs.toList) := Lib.hid (by have h := Sp.ky (SpAt.rng HJS.out.sp); rwa [Nat.zero_add] at h)
       have HBK := Lib.hid HJS.out.bk; have HCG := Lib.hid HJS.out.cg
       have HMD := Lib.hid HJS.out.st.vs.made; have HRS := Lib.hid HJS.out.st.vs.rise
       have HNW := Lib.hid HJS.out.st.now
       have HL1 : Hid (hs.length ≤ 100) := Lib.hid (by have := HHJ.out; have := HJ.out; omega)
       have HXL : Hid (xs.length ≤ 1000) := Lib.hid (by have := HJS.out.st.vs.len; have := HL1.out; omega)
       clear HAP HNI HAP2 HNI2
       go_upto_region 44 with (first | ((with_reducible apply wpList_load_spm (c := s) (h := HSL.out)); exact rfl; exact rfl; exact rfl) | ((with_reducible apply wpList_load_bk (h := HBK.out)); exact rfl; exact rfl; exact rfl) | ((with_reducible apply wpList_load_cg (h := HCG.out)); exact rfl; exact rfl; exact rfl) | ((with_reducible apply wpList_load_ykm (c := s.k) (h := HKY.out)); exact rfl; exact rfl; exact rfl) | (go_at_call 7; (with_reducible refine (CC.out).mono ?_); rintro e V7 ⟨f, x2, hs2, xs2, rfl, hns, hco⟩))
       have HNS := Lib.hid hns; have HCO := Lib.hid hco
       clear hns hco CC HSL HKY HBK HCG HJS
       have kk0 := HNS.out.dd.k0
       go_upto_if 222 with fail
       go_cut [18] from 222 to 241 (fun s18 wx => s18 = .int .i64 f ∧ ∃ uu2, XS c w wx g x2 hs2 xs2 q7 ss q6 uu2)
       case first =>
        by_cases hk : y.kind = 9
        ·as_aux_lemma =>
          have hne : (y.kind != 9) = false := by rw [hk]; rfl
          have HNI := Lib.hid (HCO.out.nine hk)
          have HXS := Lib.hid (HNS.out.same HCO.out hk HNW.out)
          have hix := HNS.out.ms.tie.rel.ix
          rw [hix] at HNI
          clear hk hix
          go_upto_region 47 with fail
          by_cases hi : s.b.ix = uu.b.ix
          ·have hf : f = 1 := by rw [HNI.out, if_pos hi]
           subst hf
           refine AnyOrder.region_kinds2 9 [.eq (ptr q13 0), .eq (s.b.V s.o s.p), .eq (.int .i64 s.b.ix), .eq (ptr q6 0), .eq (ptr q6 0), .eq (ptr q6 0), .eq (ptr q6 19), .eq (.int .i64 uu.b.ix), .eq (.bool false)] (fun wx => Below V7.heap.size V7 wx) (by kernel_rfl) (by kernel_rfl) rfl (by kernel_rfl) (below_drewN (Below.refl _ _) 1) (fun p _ _ hp => by simp at hp) ?_ ?_
           ·intro i o listed a1 w2 hin ho st hl hdep
            match i, ho with
            | 0, ho => (injection ho with ho; subst ho; have ec := AnyOrder.evc a1; have ef := AnyOrder.evf a1; have e0 : a1.eval (.tmp 13) = ptr q13 0 := st.old hl 13 (by kernel_rfl); exact AnyOrder.sv rfl rfl (ptr q13 0) (by generalize a1.eval = ρ at ec ef e0 ⊢; simp [execOp, ec, ef, e0, IntWalk.i64_left, go_sem]) st.inv (Below.refl _ _) rfl)
            | 1, ho => (injection ho with ho; subst ho; have e0 : a1.eval (.tmp 233) = ptr q13 0 := st.done 0 233 (hdep ⟨0, .data⟩ (by simp) rfl) rfl; exact AnyOrder.sv rfl rfl (s.b.V s.o s.p) (run_load_bkm e0 (Sp.bk (SpAt.rng (HNS.out.sp.step st.inv)))) st.inv (Below.refl _ _) rfl)
            | 2, ho => (injection ho with ho; subst ho; have ec := AnyOrder.evc a1; have ef := AnyOrder.evf a1; have e0 : a1.eval (.tmp 234) = s.b.V s.o s.p := st.done 1 234 (hdep ⟨1, .data⟩ (by simp) rfl) rfl; exact AnyOrder.step_call rfl (AnyOrder.wanted_none rfl) 20 #[s.b.V s.o s.p] (by generalize a1.eval = ρ at ec ef e0 ⊢; simp [execOp, ec, ef, e0, go_sem]) ((index_any s.b s.o s.p _).mono (fun e w3 h => by obtain ⟨rfl, hb⟩ := h; exact ⟨_, rfl, st.inv.trans (hb.mono st.inv.size), hb, rfl⟩)))
            | 3, ho => (injection ho with ho; subst ho; have e0 : a1.eval (.tmp 6) = ptr q6 0 := st.old hl 6 (by kernel_rfl); exact AnyOrder.sv rfl rfl (ptr q6 0) (AnyOrder.run_move e0) st.inv (Below.refl _ _) rfl)
            | 4, ho => (injection ho with ho; subst ho; have ec := AnyOrder.evc a1; have ef := AnyOrder.evf a1; have e0 : a1.eval (.tmp 236) = ptr q6 0 := st.done 3 236 (hdep ⟨3, .data⟩ (by simp) rfl) rfl; exact AnyOrder.sv rfl rfl (ptr q6 0) (by generalize a1.eval = ρ at ec ef e0 ⊢; simp [execOp, ec, ef, e0, IntWalk.i64_left, go_sem]) st.inv (Below.refl _ _) rfl)
            | 5, ho => (injection ho with ho; subst ho; have ec := AnyOrder.evc a1; have ef := AnyOrder.evf a1; have e0 : a1.eval (.tmp 237) = ptr q6 0 := st.done 4 237 (hdep ⟨4, .data⟩ (by simp) rfl) rfl; exact AnyOrder.sv rfl rfl (ptr q6 0) (by generalize a1.eval = ρ at ec ef e0 ⊢; simp [execOp, ec, ef, e0, IntWalk.i64_left, go_sem]) st.inv (Below.refl _ _) rfl)
            | 6, ho => (injection ho with ho; subst ho; have ec := AnyOrder.evc a1; have ef := AnyOrder.evf a1; have e0 : a1.eval (.tmp 238) = ptr q6 0 := st.done 5 238 (hdep ⟨5, .data⟩ (by simp) rfl) rfl; exact AnyOrder.sv rfl rfl (ptr q6 19) (by generalize a1.eval = ρ at ec ef e0 ⊢; simp [execOp, ec, ef, e0, IntWalk.i64_left, go_sem]) st.inv (Below.refl _ _) rfl)
            | 7, ho => (injection ho with ho; subst ho; have ec := AnyOrder.evc a1; have ef := AnyOrder.evf a1; have e0 : a1.eval (.tmp 239) = ptr q6 19 := st.done 6 239 (hdep ⟨6, .data⟩ (by simp) rfl) rfl; exact AnyOrder.sv rfl rfl (.int .i64 uu.b.ix) (by have hk := UvAt.k19 (At.step HNS.out.ms.uv st.inv); generalize a1.eval = ρ at ec ef e0 ⊢; simp [execOp, e0, go_sem, hk]) st.inv (Below.refl _ _) rfl)
            | 8, ho => (injection ho with ho; subst ho; have ec := AnyOrder.evc a1; have ef := AnyOrder.evf a1; have e0 : a1.eval (.tmp 235) = .int .i64 s.b.ix := st.done 2 235 (hdep ⟨2, .data⟩ (by simp) rfl) rfl; have e1 : a1.eval (.tmp 240) = .int .i64 uu.b.ix := st.done 7 240 (hdep ⟨7, .data⟩ (by simp) rfl) rfl; exact AnyOrder.sv rfl rfl (.bool false) (by generalize a1.eval = ρ at ec ef e0 e1 ⊢; simp [execOp, e0, e1, go_sem, hi]) st.inv (Below.refl _ _) rfl)
            | n + 9, ho => exact absurd hin (by omega)
           ·intro V8 hJ8
            simp only [AnyOrder.finK, List.take_succ_cons, List.take_zero, List.drop_succ_cons, List.drop_zero, Act.put, List.setIfInBounds_toArray, List.set_cons_zero, List.set_cons_succ]
            have HX8 := Lib.hid (HXS.out.step hJ8)
            go_wp2_with fail
            go_meet
            exact ⟨rfl, uu, HX8.out⟩
          ·have hf : f = 9 := by rw [HNI.out, if_neg hi]
           subst hf
           refine AnyOrder.region_kinds2 9 [.eq (ptr q13 0), .eq (s.b.V s.o s.p), .eq (.int .i64 s.b.ix), .eq (ptr q6 0), .eq (ptr q6 0), .eq (ptr q6 0), .eq (ptr q6 19), .eq (.int .i64 uu.b.ix), .eq (.bool true)] (fun wx => Below V7.heap.size V7 wx) (by kernel_rfl) (by kernel_rfl) rfl (by kernel_rfl) (below_drewN (Below.refl _ _) 1) (fun p _ _ hp => by simp at hp) ?_ ?_
           ·intro i o listed a1 w2 hin ho st hl hdep
            match i, ho with
            | 0, ho => (injection ho with ho; subst ho; have ec := AnyOrder.evc a1; have ef := AnyOrder.evf a1; have e0 : a1.eval (.tmp 13) = ptr q13 0 := st.old hl 13 (by kernel_rfl); exact AnyOrder.sv rfl rfl (ptr q13 0) (by generalize a1.eval = ρ at ec ef e0 ⊢; simp [execOp, ec, ef, e0, IntWalk.i64_left, go_sem]) st.inv (Below.refl _ _) rfl)
            | 1, ho => (injection ho with ho; subst ho; have e0 : a1.eval (.tmp 233) = ptr q13 0 := st.done 0 233 (hdep ⟨0, .data⟩ (by simp) rfl) rfl; exact AnyOrder.sv rfl rfl (s.b.V s.o s.p) (run_load_bkm e0 (Sp.bk (SpAt.rng (HNS.out.sp.step st.inv)))) st.inv (Below.refl _ _) rfl)
            | 2, ho => (injection ho with ho; subst ho; have ec := AnyOrder.evc a1; have ef := AnyOrder.evf a1; have e0 : a1.eval (.tmp 234) = s.b.V s.o s.p := st.done 1 234 (hdep ⟨1, .data⟩ (by simp) rfl) rfl; exact AnyOrder.step_call rfl (AnyOrder.wanted_none rfl) 20 #[s.b.V s.o s.p] (by generalize a1.eval = ρ at ec ef e0 ⊢; simp [execOp, ec, ef, e0, go_sem]) ((index_any s.b s.o s.p _).mono (fun e w3 h => by obtain ⟨rfl, hb⟩ := h; exact ⟨_, rfl, st.inv.trans (hb.mono st.inv.size), hb, rfl⟩)))
            | 3, ho => (injection ho with ho; subst ho; have e0 : a1.eval (.tmp 6) = ptr q6 0 := st.old hl 6 (by kernel_rfl); exact AnyOrder.sv rfl rfl (ptr q6 0) (AnyOrder.run_move e0) st.inv (Below.refl _ _) rfl)
            | 4, ho => (injection ho with ho; subst ho; have ec := AnyOrder.evc a1; have ef := AnyOrder.evf a1; have e0 : a1.eval (.tmp 236) = ptr q6 0 := st.done 3 236 (hdep ⟨3, .data⟩ (by simp) rfl) rfl; exact AnyOrder.sv rfl rfl (ptr q6 0) (by generalize a1.eval = ρ at ec ef e0 ⊢; simp [execOp, ec, ef, e0, IntWalk.i64_left, go_sem]) st.inv (Below.refl _ _) rfl)
            | 5, ho => (injection ho with ho; subst ho; have ec := AnyOrder.evc a1; have ef := AnyOrder.evf a1; have e0 : a1.eval (.tmp 237) = ptr q6 0 := st.done 4 237 (hdep ⟨4, .data⟩ (by simp) rfl) rfl; exact AnyOrder.sv rfl rfl (ptr q6 0) (by generalize a1.eval = ρ at ec ef e0 ⊢; simp [execOp, ec, ef, e0, IntWalk.i64_left, go_sem]) st.inv (Below.refl _ _) rfl)
            | 6, ho => (injection ho with ho; subst ho; have ec := AnyOrder.evc a1; have ef := AnyOrder.evf a1; have e0 : a1.eval (.tmp 238) = ptr q6 0 := st.done 5 238 (hdep ⟨5, .data⟩ (by simp) rfl) rfl; exact AnyOrder.sv rfl rfl (ptr q6 19) (by generalize a1.eval = ρ at ec ef e0 ⊢; simp [execOp, ec, ef, e0, IntWalk.i64_left, go_sem]) st.inv (Below.refl _ _) rfl)
            | 7, ho => (injection ho with ho; subst ho; have ec := AnyOrder.evc a1; have ef := AnyOrder.evf a1; have e0 : a1.eval (.tmp 239) = ptr q6 19 := st.done 6 239 (hdep ⟨6, .data⟩ (by simp) rfl) rfl; exact AnyOrder.sv rfl rfl (.int .i64 uu.b.ix) (by have hk := UvAt.k19 (At.step HNS.out.ms.uv st.inv); generalize a1.eval = ρ at ec ef e0 ⊢; simp [execOp, e0, go_sem, hk]) st.inv (Below.refl _ _) rfl)
            | 8, ho => (injection ho with ho; subst ho; have ec := AnyOrder.evc a1; have ef := AnyOrder.evf a1; have e0 : a1.eval (.tmp 235) = .int .i64 s.b.ix := st.done 2 235 (hdep ⟨2, .data⟩ (by simp) rfl) rfl; have e1 : a1.eval (.tmp 240) = .int .i64 uu.b.ix := st.done 7 240 (hdep ⟨7, .data⟩ (by simp) rfl) rfl; exact AnyOrder.sv rfl rfl (.bool true) (by generalize a1.eval = ρ at ec ef e0 e1 ⊢; simp [execOp, e0, e1, go_sem, hi]) st.inv (Below.refl _ _) rfl)
            | n + 9, ho => exact absurd hin (by omega)
           ·intro V8 hJ8
            simp only [AnyOrder.finK, List.take_succ_cons, List.take_zero, List.drop_succ_cons, List.drop_zero, Act.put, List.setIfInBounds_toArray, List.set_cons_zero, List.set_cons_succ]
            have HX8 := Lib.hid (HXS.out.step hJ8)
            go_wp2_with fail
            go_meet
            exact ⟨rfl, uu, HX8.out⟩
        ·as_aux_lemma =>
          have hne : (y.kind != 9) = true := by simpa using hk
          have CU := Lib.hid (fun (W : World) (h : NS c w W g x2 hs2 xs2 q7 ss q6 uu x.s.b hs xs q11 q13 q15 y s ch) => h.rcommit HCO.out hk HNW.out HL1.out HXL.out HMD.out HRS.out)
          clear hk
          go_upto_region 46 with fail
          refine AnyOrder.region_two 10 [.eq (ptr q6 0), .eq (ptr q13 0), .eq (s.b.V s.o s.p), .eq (.int .i64 s.b.ix), .eq (ch.V), .eq (ptr q6 0), .eq (ptr q6 0), .eq (ptr q6 26), .eq (uu.k.V), .eq (.int .i64 f)] 9 (fun b wx => CJ c w g x2 hs2 xs2 q7 ss q6 uu x.s.b hs xs q11 q13 q15 y s ch b wx) (by kernel_rfl) (by decide) (by kernel_rfl) rfl (by kernel_rfl) (CJ.pre (HNS.out.step (below_drewN (Below.refl _ _) 1))) (fun p _ _ hp => by simp at hp) ?_ ?_ ?_
          ·intro i o listed a1 w2 hin hif ho st hl hdep hcl
           match i, ho with
           | 0, ho => (injection ho with ho; subst ho; have e0 : a1.eval (.tmp 6) = ptr q6 0 := st.old hl 6 (by kernel_rfl); exact AnyOrder.sv rfl rfl (ptr q6 0) (AnyOrder.run_move e0) st.inv (Below.refl _ _) rfl)
           | 1, ho => (injection ho with ho; subst ho; have ec := AnyOrder.evc a1; have ef := AnyOrder.evf a1; have e0 : a1.eval (.tmp 13) = ptr q13 0 := st.old hl 13 (by kernel_rfl); exact AnyOrder.sv rfl rfl (ptr q13 0) (by generalize a1.eval = ρ at ec ef e0 ⊢; simp [execOp, ec, ef, e0, IntWalk.i64_left, go_sem]) st.inv (Below.refl _ _) rfl)
           | 2, ho => (injection ho with ho; subst ho; have e0 : a1.eval (.tmp 224) = ptr q13 0 := st.done 1 224 (hdep ⟨1, .data⟩ (by simp) rfl) rfl; exact AnyOrder.sv rfl rfl (s.b.V s.o s.p) (run_load_bkm e0 (Sp.bk (SpAt.rng st.inv.sp))) st.inv (Below.refl _ _) rfl)
           | 3, ho => (injection ho with ho; subst ho; have ec := AnyOrder.evc a1; have ef := AnyOrder.evf a1; have e0 : a1.eval (.tmp 225) = s.b.V s.o s.p := st.done 2 225 (hdep ⟨2, .data⟩ (by simp) rfl) rfl; exact AnyOrder.step_call rfl (AnyOrder.wanted_none rfl) 20 #[s.b.V s.o s.p] (by generalize a1.eval = ρ at ec ef e0 ⊢; simp [execOp, ec, ef, e0, go_sem]) ((index_any s.b s.o s.p _).mono (fun e w4 h => by obtain ⟨rfl, hb⟩ := h; exact ⟨_, rfl, st.inv.step hb, hb, rfl⟩)))
           | 4, ho => (injection ho with ho; subst ho; have e0 : a1.eval (.tmp 15) = ptr q15 0 := st.old hl 15 (by kernel_rfl); exact AnyOrder.sv rfl rfl (ch.V) (run_load_cg e0 st.inv.cg) st.inv (Below.refl _ _) rfl)
           | 5, ho => (injection ho with ho; subst ho; have e0 : a1.eval (.tmp 6) = ptr q6 0 := st.old hl 6 (by kernel_rfl); exact AnyOrder.sv rfl rfl (ptr q6 0) (AnyOrder.run_move e0) st.inv (Below.refl _ _) rfl)
           | 6, ho => (injection ho with ho; subst ho; have ec := AnyOrder.evc a1; have ef := AnyOrder.evf a1; have e0 : a1.eval (.tmp 228) = ptr q6 0 := st.done 5 228 (hdep ⟨5, .data⟩ (by simp) rfl) rfl; exact AnyOrder.sv rfl rfl (ptr q6 0) (by generalize a1.eval = ρ at ec ef e0 ⊢; simp [execOp, ec, ef, e0, IntWalk.i64_left, go_sem]) st.inv (Below.refl _ _) rfl)
           | 7, ho => (injection ho with ho; subst ho; have ec := AnyOrder.evc a1; have ef := AnyOrder.evf a1; have e0 : a1.eval (.tmp 229) = ptr q6 0 := st.done 6 229 (hdep ⟨6, .data⟩ (by simp) rfl) rfl; exact AnyOrder.sv rfl rfl (ptr q6 26) (by generalize a1.eval = ρ at ec ef e0 ⊢; simp [execOp, ec, ef, e0, IntWalk.i64_left, go_sem]) st.inv (Below.refl _ _) rfl)
           | 8, ho => (injection ho with ho; subst ho; have e0 : a1.eval (.tmp 230) = ptr q6 26 := st.done 7 230 (hdep ⟨7, .data⟩ (by simp) rfl) rfl; exact AnyOrder.sv rfl rfl (uu.k.V) (run_load_yrm e0 st.inv.ky) st.inv (Below.refl _ _) rfl)
           | 9, ho => exact absurd rfl hif
           | n + 10, ho => exact absurd hin (by omega)
          ·intro o listed a1 w2 ho st hl hdep
           (injection ho with ho; subst ho; have ec := AnyOrder.evc a1; have ef := AnyOrder.evf a1; have e0 : a1.eval (.tmp 223) = ptr q6 0 := st.done 0 223 (hdep ⟨0, .data⟩ (by simp) rfl) rfl; have e1 : a1.eval (.tmp 226) = .int .i64 s.b.ix := st.done 3 226 (hdep ⟨3, .data⟩ (by simp) rfl) rfl; have e2 : a1.eval (.tmp 227) = ch.V := st.done 4 227 (hdep ⟨4, .data⟩ (by simp) rfl) rfl; have e3 : a1.eval (.tmp 231) = uu.k.V := st.done 8 231 (hdep ⟨8, .data⟩ (by simp) rfl) rfl; exact AnyOrder.turn_call rfl (AnyOrder.wanted_none rfl) 19 #[ptr q6 0, .int .i64 s.b.ix, ch.V, uu.k.V] (by generalize a1.eval = ρ at ec ef e0 e1 e2 e3 ⊢; simp [execOp, ec, ef, e0, e1, e2, e3, go_sem]) ((CU.out _ (st.inv.no rfl)).mono (fun e w4 h => by obtain ⟨rfl, uu2, hx, hs3, hc3, hk3⟩ := h; exact ⟨_, rfl, CJ.post hx hs3 hc3 hk3, rfl⟩)))
          ·intro V8 hJ8
           simp only [AnyOrder.finK, List.take_succ_cons, List.take_zero, List.drop_succ_cons, List.drop_zero, Act.put, List.setIfInBounds_toArray, List.set_cons_zero, List.set_cons_succ]
           have HX8 := Lib.hid (hJ8.yes rfl)
           go_wp2_with fail
           go_meet
           exact ⟨rfl, HX8.out⟩
       case rest =>
        obtain ⟨rfl, uu2, hx2⟩ := hcut
        have HX8 := Lib.hid hx2
        clear hx2 kk0 HNS
        have hw1 : IntKind.i64.wrap (x.n + 1) = x2.n := by rw [HCO.out.n]; exact IntWalk.i64_in _ (by have := HN2.out; have := HJ.out; omega)
        go_upto_if 245 with fail
        go_cut [9] from 245 to 247 (fun s9 wx => s9 = .int .i64 x2.m ∧ XS c w wx g x2 hs2 xs2 q7 ss q6 uu2)
        case first =>
         have hst := HCO.out.stale
         by_cases hf9 : f = 9
         ·have d9 : (f == 9) = true := by simpa using hf9
          have hw2 : IntKind.i64.wrap (x.m + 1) = x2.m := by rw [hst, if_pos hf9]; exact IntWalk.i64_in _ (by have := HM2.out; have := HJ.out; omega)
          clear hst hf9
          go_wp2_with fail
          go_meet
          exact ⟨rfl, HX8.out⟩
         ·have d9 : (f == 9) = false := by simpa using hf9
          have HE : Hid (x.m = x2.m) := Lib.hid (by rw [hst, if_neg hf9])
          clear hst hf9
          go_wp2_with fail
          go_meet
          exact ⟨by rw [HE.out], HX8.out⟩
        case rest =>
         clear HX8 hw1
         obtain ⟨rfl, hx3⟩ := hcut
         have HX9 := Lib.hid hx3
         clear hx3
         have hff : (f != f) = false := by simp
         have CR := Lib.hid HX9.out.vs.read
         go_upto_region 54 with fail
         clear hff
         go_upto_region 55 with (first | (go_at_call 12; (with_reducible refine (CR.out).mono ?_); rintro e V9 ⟨rfl, hb9⟩; have HXa := Lib.hid (HX9.out.step hb9); have CL := Lib.hid (live_any HXa.out.vs.at_)) | ((with_reducible apply wpList_field_bk (s := x2.s)); exact rfl; exact rfl; exact rfl) | (go_at_call 21; (with_reducible refine (CL.out).mono ?_); rintro e V10 ⟨v19, rfl, ho, hb10⟩))
         have HXb := Lib.hid (HXa.out.step hb10)
         have hrd : Sh.Rd Sh.eC V10 v19 uu2.b.live := by have h := ho.rd; rw [HXb.out.tie.rel.live] at h; exact h
         clear HX9 HXa CR CL hb9 hb10 ho
         obtain ⟨O1, c1, rfl⟩ := rd_len hrd
         have hrd2 : Sh.Rd Sh.eC V10 (.slice uu2.s.1 uu2.b.live.length uu2.s.2) uu2.b.live := HXb.out.ua.1.1
         have k19 : V10.cell? ⟨q6, 19, none⟩ = some (.int .i64 uu2.b.ix) := UvAt.k19 HXb.out.uv
         have k20 : V10.cell? ⟨q6, 20, none⟩ = some (.slice uu2.s.1 uu2.b.live.length uu2.s.2) := UvAt.k20 HXb.out.uv
         have k46 := UvAt.k46 HXb.out.uv
         obtain ⟨O8, c8, hv8, _⟩ := HXb.out.uo.form
         rw [hv8] at k46
         have HQ6 : Hid (q6 < V10.heap.size) := Lib.hid (At.lt HXb.out.uv)
         obtain ⟨n, hn⟩ : ∃ n, uu2.b.live.length = n := ⟨_, rfl⟩
         obtain ⟨O2, hO2⟩ : ∃ O2, uu2.s.1 = O2 := ⟨_, rfl⟩
         obtain ⟨c2, hc2⟩ : ∃ c2, uu2.s.2 = c2 := ⟨_, rfl⟩
         have hn9 : n ≤ 1000 := by have := HXb.out.tie.ul; have := HCO.out.len; have := HL1.out; omega
         rw [hn] at hrd ⊢
         rw [hn, hO2, hc2] at hrd2 k20
         obtain ⟨X, hX⟩ : ∃ X, xs2.length = X := ⟨_, rfl⟩
         have CK := Lib.hid (fun (W : World) (h : XS c w W g x2 hs2 xs2 q7 ss q6 uu2) => by have k := h.vs.kept; rw [hX] at k; exact k : ∀ W, XS c w W g x2 hs2 xs2 q7 ss q6 uu2 → Calls Tryz.prog 11 #[ptr g 0] W fun e w' => e = .returned (.int .i64 (X : Int)) ∧ Below W.heap.size W w')
         rw [hX] at k46
         have CI := Lib.hid (fun W => by have h := index_any x2.s.b x2.s.o x2.s.p W; rw [HXb.out.tie.rel.ix] at h; exact h : ∀ W, Calls Tryz.prog 20 #[x2.s.b.V x2.s.o x2.s.p] W (Num W uu2.b.ix))
         have HRA := Lib.hid hrd; have HRB := Lib.hid hrd2; have K19 := Lib.hid k19; have K20 := Lib.hid k20; have K46 := Lib.hid k46; have HNL := Lib.hid hn; have HNB := Lib.hid hn9
         clear hrd hrd2 k19 k20 k46 hn hO2 hc2 hX hv8 hn9
         refine AnyOrder.region_kinds2 31 [.eq (.slice O1 n c1), .eq (.int .i64 (n : Int)), .eq (ptr q6 0), .eq (ptr q6 0), .eq (ptr q6 0), .eq (ptr q6 20), .eq (.slice O2 n c2), .eq (.int .i64 (n : Int)), .eq (.bool false), .eq (.bool false), .eq (ptr g 0), .eq (x2.s.V), .eq (x2.s.b.V x2.s.o x2.s.p), .eq (.int .i64 uu2.b.ix), .eq (ptr q6 0), .eq (ptr q6 0), .eq (ptr q6 0), .eq (ptr q6 19), .eq (.int .i64 uu2.b.ix), .eq (.bool false), .eq (.bool false), .eq (.bool false), .eq (ptr g 0), .eq (.int .i64 (X : Int)), .eq (ptr q6 0), .eq (ptr q6 0), .eq (ptr q6 46), .eq (.slice O8 X c8), .eq (.int .i64 (X : Int)), .eq (.bool false), .eq (.bool false)] (fun wx => Below V10.heap.size V10 wx) (by kernel_rfl) (by kernel_rfl) rfl (by kernel_rfl) (below_drewN (Below.refl _ _) 1) (fun p _ _ hp => by simp at hp) ?_ ?_
         ·intro i o listed a1 w2 hin ho st hl hdep
          match i, ho with
          | 0, ho => (injection ho with ho; subst ho; have e0 : a1.eval (.tmp 19) = .slice O1 n c1 := st.old hl 19 (by kernel_rfl); exact AnyOrder.sv rfl rfl (.slice O1 n c1) (AnyOrder.run_move e0) st.inv (Below.refl _ _) rfl)
          | 1, ho => (injection ho with ho; subst ho; have ec := AnyOrder.evc a1; have ef := AnyOrder.evf a1; have e0 : a1.eval (.tmp 255) = .slice O1 n c1 := st.done 0 255 (hdep ⟨0, .data⟩ (by simp) rfl) rfl; exact AnyOrder.sv rfl rfl (.int .i64 (n : Int)) (by generalize a1.eval = ρ at ec ef e0 ⊢; simp [execOp, ec, ef, e0, IntWalk.i64_left, go_sem]) st.inv (Below.refl _ _) rfl)
          | 2, ho => (injection ho with ho; subst ho; have e0 : a1.eval (.tmp 6) = ptr q6 0 := st.old hl 6 (by kernel_rfl); exact AnyOrder.sv rfl rfl (ptr q6 0) (AnyOrder.run_move e0) st.inv (Below.refl _ _) rfl)
          | 3, ho => (injection ho with ho; subst ho; have ec := AnyOrder.evc a1; have ef := AnyOrder.evf a1; have e0 : a1.eval (.tmp 257) = ptr q6 0 := st.done 2 257 (hdep ⟨2, .data⟩ (by simp) rfl) rfl; exact AnyOrder.sv rfl rfl (ptr q6 0) (by generalize a1.eval = ρ at ec ef e0 ⊢; simp [execOp, ec, ef, e0, IntWalk.i64_left, go_sem]) st.inv (Below.refl _ _) rfl)
          | 4, ho => (injection ho with ho; subst ho; have ec := AnyOrder.evc a1; have ef := AnyOrder.evf a1; have e0 : a1.eval (.tmp 258) = ptr q6 0 := st.done 3 258 (hdep ⟨3, .data⟩ (by simp) rfl) rfl; exact AnyOrder.sv rfl rfl (ptr q6 0) (by generalize a1.eval = ρ at ec ef e0 ⊢; simp [execOp, ec, ef, e0, IntWalk.i64_left, go_sem]) st.inv (Below.refl _ _) rfl)
          | 5, ho => (injection ho with ho; subst ho; have ec := AnyOrder.evc a1; have ef := AnyOrder.evf a1; have e0 : a1.eval (.tmp 259) = ptr q6 0 := st.done 4 259 (hdep ⟨4, .data⟩ (by simp) rfl) rfl; exact AnyOrder.sv rfl rfl (ptr q6 20) (by generalize a1.eval = ρ at ec ef e0 ⊢; simp [execOp, ec, ef, e0, IntWalk.i64_left, go_sem]) st.inv (Below.refl _ _) rfl)
          | 6, ho => (injection ho with ho; subst ho; have ec := AnyOrder.evc a1; have ef := AnyOrder.evf a1; have e0 : a1.eval (.tmp 260) = ptr q6 20 := st.done 5 260 (hdep ⟨5, .data⟩ (by simp) rfl) rfl; exact AnyOrder.sv rfl rfl (.slice O2 n c2) (by have hk : w2.cell? ⟨q6, 20, none⟩ = some (.slice O2 n c2) := (st.inv.cell (p := ⟨q6, 20, none⟩) HQ6.out).trans K20.out; generalize a1.eval = ρ at ec ef e0 ⊢; simp [execOp, e0, go_sem, hk]) st.inv (Below.refl _ _) rfl)
          | 7, ho => (injection ho with ho; subst ho; have ec := AnyOrder.evc a1; have ef := AnyOrder.evf a1; have e0 : a1.eval (.tmp 261) = .slice O2 n c2 := st.done 6 261 (hdep ⟨6, .data⟩ (by simp) rfl) rfl; exact AnyOrder.sv rfl rfl (.int .i64 (n : Int)) (by generalize a1.eval = ρ at ec ef e0 ⊢; simp [execOp, ec, ef, e0, IntWalk.i64_left, go_sem]) st.inv (Below.refl _ _) rfl)
          | 8, ho => (injection ho with ho; subst ho; have ec := AnyOrder.evc a1; have ef := AnyOrder.evf a1; have e0 : a1.eval (.tmp 256) = .int .i64 (n : Int) := st.done 1 256 (hdep ⟨1, .data⟩ (by simp) rfl) rfl; have e1 : a1.eval (.tmp 262) = .int .i64 (n : Int) := st.done 7 262 (hdep ⟨7, .data⟩ (by simp) rfl) rfl; exact AnyOrder.sv rfl rfl (.bool false) (by generalize a1.eval = ρ at ec ef e0 e1 ⊢; simp [execOp, ec, ef, e0, e1, IntWalk.i64_left, go_sem]) st.inv (Below.refl _ _) rfl)
          | 9, ho => (injection ho with ho; subst ho; have e0 : a1.eval (.tmp 263) = .bool false := st.done 8 263 (hdep ⟨8, .data⟩ (by simp) rfl) rfl; exact AnyOrder.sv rfl rfl (.bool false) (AnyOrder.run_move e0) st.inv (Below.refl _ _) rfl)
          | 10, ho => (injection ho with ho; subst ho; have e0 : a1.eval (.tmp 5) = ptr g 0 := st.old hl 5 (by kernel_rfl); have eg : a1.eval (.tmp 264) = .bool false := st.done 9 264 (hdep ⟨9, .guard⟩ (by simp) rfl) rfl; exact AnyOrder.step_value rfl ((AnyOrder.wanted_of rfl rfl eg).trans rfl) (ptr g 0) (AnyOrder.run_move e0) st.inv (Below.refl _ _) rfl)
          | 11, ho => (injection ho with ho; subst ho; have ec := AnyOrder.evc a1; have ef := AnyOrder.evf a1; have e0 : a1.eval (.tmp 265) = ptr g 0 := st.done 10 265 (hdep ⟨10, .data⟩ (by simp) rfl) rfl; have eg : a1.eval (.tmp 264) = .bool false := st.done 9 264 (hdep ⟨9, .chain⟩ (by simp) rfl) rfl; exact AnyOrder.step_call rfl ((AnyOrder.wanted_of rfl rfl eg).trans rfl) 12 #[ptr g 0] (by generalize a1.eval = ρ at ec ef e0 ⊢; simp [execOp, ec, ef, e0, go_sem]) (((HXb.out.step st.inv).vs.read).mono (fun e w3 h => by obtain ⟨rfl, hb⟩ := h; exact ⟨_, rfl, st.inv.trans (hb.mono st.inv.size), hb, rfl⟩)))
          | 12, ho => (injection ho with ho; subst ho; have e0 : a1.eval (.tmp 266) = x2.s.V := st.done 11 266 (hdep ⟨11, .data⟩ (by simp) rfl) rfl; have eg : a1.eval (.tmp 264) = .bool false := st.done 9 264 (hdep ⟨9, .guard⟩ (by simp) rfl) rfl; exact AnyOrder.step_value rfl ((AnyOrder.wanted_of rfl rfl eg).trans rfl) (x2.s.b.V x2.s.o x2.s.p) (run_fieldb e0) st.inv (Below.refl _ _) rfl)
          | 13, ho => (injection ho with ho; subst ho; have ec := AnyOrder.evc a1; have ef := AnyOrder.evf a1; have e0 : a1.eval (.tmp 267) = x2.s.b.V x2.s.o x2.s.p := st.done 12 267 (hdep ⟨12, .data⟩ (by simp) rfl) rfl; have eg : a1.eval (.tmp 264) = .bool false := st.done 9 264 (hdep ⟨9, .guard⟩ (by simp) rfl) rfl; exact AnyOrder.step_call rfl ((AnyOrder.wanted_of rfl rfl eg).trans rfl) 20 #[x2.s.b.V x2.s.o x2.s.p] (by generalize a1.eval = ρ at ec ef e0 ⊢; simp [execOp, ec, ef, e0, go_sem]) ((CI.out _).mono (fun e w3 h => by obtain ⟨rfl, hb⟩ := h; exact ⟨_, rfl, st.inv.trans (hb.mono st.inv.size), hb, rfl⟩)))
          | 14, ho => (injection ho with ho; subst ho; have e0 : a1.eval (.tmp 6) = ptr q6 0 := st.old hl 6 (by kernel_rfl); have eg : a1.eval (.tmp 264) = .bool false := st.done 9 264 (hdep ⟨9, .guard⟩ (by simp) rfl) rfl; exact AnyOrder.step_value rfl ((AnyOrder.wanted_of rfl rfl eg).trans rfl) (ptr q6 0) (AnyOrder.run_move e0) st.inv (Below.refl _ _) rfl)
          | 15, ho => (injection ho with ho; subst ho; have ec := AnyOrder.evc a1; have ef := AnyOrder.evf a1; have e0 : a1.eval (.tmp 269) = ptr q6 0 := st.done 14 269 (hdep ⟨14, .data⟩ (by simp) rfl) rfl; have eg : a1.eval (.tmp 264) = .bool false := st.done 9 264 (hdep ⟨9, .guard⟩ (by simp) rfl) rfl; exact AnyOrder.step_value rfl ((AnyOrder.wanted_of rfl rfl eg).trans rfl) (ptr q6 0) (by generalize a1.eval = ρ at ec ef e0 ⊢; simp [execOp, ec, ef, e0, IntWalk.i64_left, go_sem]) st.inv (Below.refl _ _) rfl)
          | 16, ho => (injection ho with ho; subst ho; have ec := AnyOrder.evc a1; have ef := AnyOrder.evf a1; have e0 : a1.eval (.tmp 270) = ptr q6 0 := st.done 15 270 (hdep ⟨15, .data⟩ (by simp) rfl) rfl; have eg : a1.eval (.tmp 264) = .bool false := st.done 9 264 (hdep ⟨9, .guard⟩ (by simp) rfl) rfl; exact AnyOrder.step_value rfl ((AnyOrder.wanted_of rfl rfl eg).trans rfl) (ptr q6 0) (by generalize a1.eval = ρ at ec ef e0 ⊢; simp [execOp, ec, ef, e0, IntWalk.i64_left, go_sem]) st.inv (Below.refl _ _) rfl)
          | 17, ho => (injection ho with ho; subst ho; have ec := AnyOrder.evc a1; have ef := AnyOrder.evf a1; have e0 : a1.eval (.tmp 271) = ptr q6 0 := st.done 16 271 (hdep ⟨16, .data⟩ (by simp) rfl) rfl; have eg : a1.eval (.tmp 264) = .bool false := st.done 9 264 (hdep ⟨9, .guard⟩ (by simp) rfl) rfl; exact AnyOrder.step_value rfl ((AnyOrder.wanted_of rfl rfl eg).trans rfl) (ptr q6 19) (by generalize a1.eval = ρ at ec ef e0 ⊢; simp [execOp, ec, ef, e0, IntWalk.i64_left, go_sem]) st.inv (Below.refl _ _) rfl)
          | 18, ho => (injection ho with ho; subst ho; have ec := AnyOrder.evc a1; have ef := AnyOrder.evf a1; have e0 : a1.eval (.tmp 272) = ptr q6 19 := st.done 17 272 (hdep ⟨17, .data⟩ (by simp) rfl) rfl; have eg : a1.eval (.tmp 264) = .bool false := st.done 9 264 (hdep ⟨9, .guard⟩ (by simp) rfl) rfl; exact AnyOrder.step_value rfl ((AnyOrder.wanted_of rfl rfl eg).trans rfl) (.int .i64 uu2.b.ix) (by have hk : w2.cell? ⟨q6, 19, none⟩ = some (.int .i64 uu2.b.ix) := (st.inv.cell (p := ⟨q6, 19, none⟩) HQ6.out).trans K19.out; generalize a1.eval = ρ at ec ef e0 ⊢; simp [execOp, e0, go_sem, hk]) st.inv (Below.refl _ _) rfl)
          | 19, ho => (injection ho with ho; subst ho; have ec := AnyOrder.evc a1; have ef := AnyOrder.evf a1; have e0 : a1.eval (.tmp 268) = .int .i64 uu2.b.ix := st.done 13 268 (hdep ⟨13, .data⟩ (by simp) rfl) rfl; have e1 : a1.eval (.tmp 273) = .int .i64 uu2.b.ix := st.done 18 273 (hdep ⟨18, .data⟩ (by simp) rfl) rfl; have eg : a1.eval (.tmp 264) = .bool false := st.done 9 264 (hdep ⟨9, .guard⟩ (by simp) rfl) rfl; exact AnyOrder.step_value rfl ((AnyOrder.wanted_of rfl rfl eg).trans rfl) (.bool false) (by generalize a1.eval = ρ at ec ef e0 e1 ⊢; simp [execOp, ec, ef, e0, e1, IntWalk.i64_left, go_sem]) st.inv (Below.refl _ _) rfl)
          | 20, ho => (injection ho with ho; subst ho; have ec := AnyOrder.evc a1; have ef := AnyOrder.evf a1; have e0 : a1.eval (.tmp 264) = .bool false := st.done 9 264 (hdep ⟨9, .data⟩ (by simp) rfl) rfl; have e1 : a1.eval (.tmp 274) = .bool false := st.done 19 274 (hdep ⟨19, .data⟩ (by simp) rfl) rfl; exact AnyOrder.sv rfl rfl (.bool false) (by generalize a1.eval = ρ at ec ef e0 e1 ⊢; simp [execOp, ec, ef, e0, e1, IntWalk.i64_left, go_sem]) st.inv (Below.refl _ _) rfl)
          | 21, ho => (injection ho with ho; subst ho; have e0 : a1.eval (.tmp 275) = .bool false := st.done 20 275 (hdep ⟨20, .data⟩ (by simp) rfl) rfl; exact AnyOrder.sv rfl rfl (.bool false) (AnyOrder.run_move e0) st.inv (Below.refl _ _) rfl)
          | 22, ho => (injection ho with ho; subst ho; have e0 : a1.eval (.tmp 5) = ptr g 0 := st.old hl 5 (by kernel_rfl); have eg : a1.eval (.tmp 276) = .bool false := st.done 21 276 (hdep ⟨21, .guard⟩ (by simp) rfl) rfl; exact AnyOrder.step_value rfl ((AnyOrder.wanted_of rfl rfl eg).trans rfl) (ptr g 0) (AnyOrder.run_move e0) st.inv (Below.refl _ _) rfl)
          | 23, ho => (injection ho with ho; subst ho; have ec := AnyOrder.evc a1; have ef := AnyOrder.evf a1; have e0 : a1.eval (.tmp 277) = ptr g 0 := st.done 22 277 (hdep ⟨22, .data⟩ (by simp) rfl) rfl; have eg : a1.eval (.tmp 276) = .bool false := st.done 21 276 (hdep ⟨21, .chain⟩ (by simp) rfl) rfl; exact AnyOrder.step_call rfl ((AnyOrder.wanted_of rfl rfl eg).trans rfl) 11 #[ptr g 0] (by generalize a1.eval = ρ at ec ef e0 ⊢; simp [execOp, ec, ef, e0, go_sem]) ((CK.out _ (HXb.out.step st.inv)).mono (fun e w3 h => by obtain ⟨rfl, hb⟩ := h; exact ⟨_, rfl, st.inv.trans (hb.mono st.inv.size), hb, rfl⟩)))
          | 24, ho => (injection ho with ho; subst ho; have e0 : a1.eval (.tmp 6) = ptr q6 0 := st.old hl 6 (by kernel_rfl); have eg : a1.eval (.tmp 276) = .bool false := st.done 21 276 (hdep ⟨21, .guard⟩ (by simp) rfl) rfl; exact AnyOrder.step_value rfl ((AnyOrder.wanted_of rfl rfl eg).trans rfl) (ptr q6 0) (AnyOrder.run_move e0) st.inv (Below.refl _ _) rfl)
          | 25, ho => (injection ho with ho; subst ho; have ec := AnyOrder.evc a1; have ef := AnyOrder.evf a1; have e0 : a1.eval (.tmp 279) = ptr q6 0 := st.done 24 279 (hdep ⟨24, .data⟩ (by simp) rfl) rfl; have eg : a1.eval (.tmp 276) = .bool false := st.done 21 276 (hdep ⟨21, .guard⟩ (by simp) rfl) rfl; exact AnyOrder.step_value rfl ((AnyOrder.wanted_of rfl rfl eg).trans rfl) (ptr q6 0) (by generalize a1.eval = ρ at ec ef e0 ⊢; simp [execOp, ec, ef, e0, IntWalk.i64_left, go_sem]) st.inv (Below.refl _ _) rfl)
          | 26, ho => (injection ho with ho; subst ho; have ec := AnyOrder.evc a1; have ef := AnyOrder.evf a1; have e0 : a1.eval (.tmp 280) = ptr q6 0 := st.done 25 280 (hdep ⟨25, .data⟩ (by simp) rfl) rfl; have eg : a1.eval (.tmp 276) = .bool false := st.done 21 276 (hdep ⟨21, .guard⟩ (by simp) rfl) rfl; exact AnyOrder.step_value rfl ((AnyOrder.wanted_of rfl rfl eg).trans rfl) (ptr q6 46) (by generalize a1.eval = ρ at ec ef e0 ⊢; simp [execOp, ec, ef, e0, IntWalk.i64_left, go_sem]) st.inv (Below.refl _ _) rfl)
          | 27, ho => (injection ho with ho; subst ho; have ec := AnyOrder.evc a1; have ef := AnyOrder.evf a1; have e0 : a1.eval (.tmp 281) = ptr q6 46 := st.done 26 281 (hdep ⟨26, .data⟩ (by simp) rfl) rfl; have eg : a1.eval (.tmp 276) = .bool false := st.done 21 276 (hdep ⟨21, .guard⟩ (by simp) rfl) rfl; exact AnyOrder.step_value rfl ((AnyOrder.wanted_of rfl rfl eg).trans rfl) (.slice O8 X c8) (by have hk : w2.cell? ⟨q6, 46, none⟩ = some (.slice O8 X c8) := (st.inv.cell (p := ⟨q6, 46, none⟩) HQ6.out).trans K46.out; generalize a1.eval = ρ at ec ef e0 ⊢; simp [execOp, e0, go_sem, hk]) st.inv (Below.refl _ _) rfl)
          | 28, ho => (injection ho with ho; subst ho; have ec := AnyOrder.evc a1; have ef := AnyOrder.evf a1; have e0 : a1.eval (.tmp 282) = .slice O8 X c8 := st.done 27 282 (hdep ⟨27, .data⟩ (by simp) rfl) rfl; have eg : a1.eval (.tmp 276) = .bool false := st.done 21 276 (hdep ⟨21, .guard⟩ (by simp) rfl) rfl; exact AnyOrder.step_value rfl ((AnyOrder.wanted_of rfl rfl eg).trans rfl) (.int .i64 (X : Int)) (by generalize a1.eval = ρ at ec ef e0 ⊢; simp [execOp, ec, ef, e0, IntWalk.i64_left, go_sem]) st.inv (Below.refl _ _) rfl)
          | 29, ho => (injection ho with ho; subst ho; have ec := AnyOrder.evc a1; have ef := AnyOrder.evf a1; have e0 : a1.eval (.tmp 278) = .int .i64 (X : Int) := st.done 23 278 (hdep ⟨23, .data⟩ (by simp) rfl) rfl; have e1 : a1.eval (.tmp 283) = .int .i64 (X : Int) := st.done 28 283 (hdep ⟨28, .data⟩ (by simp) rfl) rfl; have eg : a1.eval (.tmp 276) = .bool false := st.done 21 276 (hdep ⟨21, .guard⟩ (by simp) rfl) rfl; exact AnyOrder.step_value rfl ((AnyOrder.wanted_of rfl rfl eg).trans rfl) (.bool false) (by generalize a1.eval = ρ at ec ef e0 e1 ⊢; simp [execOp, ec, ef, e0, e1, IntWalk.i64_left, go_sem]) st.inv (Below.refl _ _) rfl)
          | 30, ho => (injection ho with ho; subst ho; have ec := AnyOrder.evc a1; have ef := AnyOrder.evf a1; have e0 : a1.eval (.tmp 276) = .bool false := st.done 21 276 (hdep ⟨21, .data⟩ (by simp) rfl) rfl; have e1 : a1.eval (.tmp 284) = .bool false := st.done 29 284 (hdep ⟨29, .data⟩ (by simp) rfl) rfl; exact AnyOrder.sv rfl rfl (.bool false) (by generalize a1.eval = ρ at ec ef e0 e1 ⊢; simp [execOp, ec, ef, e0, e1, IntWalk.i64_left, go_sem]) st.inv (Below.refl _ _) rfl)
          | n + 31, ho => exact absurd hin (by omega)
         ·intro V11 hJ11
          simp only [AnyOrder.finK, List.take_succ_cons, List.take_zero, List.drop_succ_cons, List.drop_zero, Act.put, List.setIfInBounds_toArray, List.set_cons_zero, List.set_cons_succ]
          clear CK CI K19 K46
          go_wp2_with fail
          go_loopg [20] n (fun gh s20 wx => ∃ k2 : Nat, k2 ≤ n ∧ gh = n - k2 ∧ s20 = .int .i64 (k2 : Int) ∧ Below V10.heap.size V10 wx)
          case atStart => exact ⟨0, Nat.zero_le _, rfl, rfl, hJ11⟩
          case round =>
           clear hJ11
           obtain ⟨k2, hk2, hg2, rfl, hb2⟩ := hrel
           have HG2 := Lib.hid hg2; have HB2 := Lib.hid hb2; clear hg2 hb2
           by_cases hlt2 : k2 < n
           ·have h1 : k2 < uu2.b.live.length := by rw [HNL.out]; exact hlt2
            obtain ⟨b1, o1, rfl, l1, kk1⟩ := rd_cell HRA.out h1
            obtain ⟨b2, o2, rfl, l2, kk2⟩ := rd_cell HRB.out h1
            generalize uu2.b.live[k2] = z at *
            have K1 := Lib.hid (rng_below kk1 l1 HB2.out); have K2 := Lib.hid (rng_below kk2 l2 HB2.out)
            have L1 : Hid (b1 < wr.heap.size) := Lib.hid (Nat.lt_of_lt_of_le l1 HB2.out.size)
            have L2 : Hid (b2 < wr.heap.size) := Lib.hid (Nat.lt_of_lt_of_le l2 HB2.out.size)
            clear kk1 kk2 l1 l2 h1
            have b3 : (k2 : Int) < (n : Int) := by omega
            have b4 : (0 : Int) ≤ (k2 : Int) := by omega
            go_upto_region 60 with fail
            refine AnyOrder.region_kinds2 13 [.eq (.slice (some ⟨b1, o1, none⟩) n c1), .eq (.int .i64 (k2 : Int)), .eq (ptr b1 (o1 + k2 * 8)), .eq (z.V), .eq (ptr q6 0), .eq (ptr q6 0), .eq (ptr q6 0), .eq (ptr q6 20), .eq (.slice (some ⟨b2, o2, none⟩) n c2), .eq (.int .i64 (k2 : Int)), .eq (ptr b2 (o2 + k2 * 8)), .eq (z.V), .eq (.bool false)] (fun wx => Below wr.heap.size wr wx) (by kernel_rfl) (by kernel_rfl) rfl (by kernel_rfl) (below_drewN (Below.refl _ _) 1) (fun p _ _ hp => by simp at hp) ?_ ?_
            ·intro i o listed a1 w2 hin ho st hl hdep
             match i, ho with
             | 0, ho => (injection ho with ho; subst ho; have e0 : a1.eval (.tmp 19) = .slice (some ⟨b1, o1, none⟩) n c1 := st.old hl 19 (by kernel_rfl); exact AnyOrder.sv rfl rfl (.slice (some ⟨b1, o1, none⟩) n c1) (AnyOrder.run_move e0) st.inv (Below.refl _ _) rfl)
             | 1, ho => (injection ho with ho; subst ho; have e0 : a1.eval (.tmp 20) = .int .i64 (k2 : Int) := st.old hl 20 (by kernel_rfl); exact AnyOrder.sv rfl rfl (.int .i64 (k2 : Int)) (AnyOrder.run_move e0) st.inv (Below.refl _ _) rfl)
             | 2, ho => (injection ho with ho; subst ho; have ec := AnyOrder.evc a1; have ef := AnyOrder.evf a1; have e0 : a1.eval (.tmp 292) = .slice (some ⟨b1, o1, none⟩) n c1 := st.done 0 292 (hdep ⟨0, .data⟩ (by simp) rfl) rfl; have e1 : a1.eval (.tmp 293) = .int .i64 (k2 : Int) := st.done 1 293 (hdep ⟨1, .data⟩ (by simp) rfl) rfl; exact AnyOrder.sv rfl rfl (ptr b1 (o1 + k2 * 8)) (by generalize a1.eval = ρ at ec ef e0 e1 ⊢; simp [execOp, e0, e1, go_sem, b3, b4]) st.inv (Below.refl _ _) rfl)
             | 3, ho => (injection ho with ho; subst ho; have e0 : a1.eval (.tmp 294) = ptr b1 (o1 + k2 * 8) := st.done 2 294 (hdep ⟨2, .data⟩ (by simp) rfl) rfl; exact AnyOrder.sv rfl rfl (z.V) (run_load_kp e0 (rng_below K1.out L1.out st.inv)) st.inv (Below.refl _ _) rfl)
             | 4, ho => (injection ho with ho; subst ho; have e0 : a1.eval (.tmp 6) = ptr q6 0 := st.old hl 6 (by kernel_rfl); exact AnyOrder.sv rfl rfl (ptr q6 0) (AnyOrder.run_move e0) st.inv (Below.refl _ _) rfl)
             | 5, ho => (injection ho with ho; subst ho; have ec := AnyOrder.evc a1; have ef := AnyOrder.evf a1; have e0 : a1.eval (.tmp 296) = ptr q6 0 := st.done 4 296 (hdep ⟨4, .data⟩ (by simp) rfl) rfl; exact AnyOrder.sv rfl rfl (ptr q6 0) (by generalize a1.eval = ρ at ec ef e0 ⊢; simp [execOp, ec, ef, e0, IntWalk.i64_left, go_sem]) st.inv (Below.refl _ _) rfl)
             | 6, ho => (injection ho with ho; subst ho; have ec := AnyOrder.evc a1; have ef := AnyOrder.evf a1; have e0 : a1.eval (.tmp 297) = ptr q6 0 := st.done 5 297 (hdep ⟨5, .data⟩ (by simp) rfl) rfl; exact AnyOrder.sv rfl rfl (ptr q6 0) (by generalize a1.eval = ρ at ec ef e0 ⊢; simp [execOp, ec, ef, e0, IntWalk.i64_left, go_sem]) st.inv (Below.refl _ _) rfl)
             | 7, ho => (injection ho with ho; subst ho; have ec := AnyOrder.evc a1; have ef := AnyOrder.evf a1; have e0 : a1.eval (.tmp 298) = ptr q6 0 := st.done 6 298 (hdep ⟨6, .data⟩ (by simp) rfl) rfl; exact AnyOrder.sv rfl rfl (ptr q6 20) (by generalize a1.eval = ρ at ec ef e0 ⊢; simp [execOp, ec, ef, e0, IntWalk.i64_left, go_sem]) st.inv (Below.refl _ _) rfl)
             | 8, ho => (injection ho with ho; subst ho; have ec := AnyOrder.evc a1; have ef := AnyOrder.evf a1; have e0 : a1.eval (.tmp 299) = ptr q6 20 := st.done 7 299 (hdep ⟨7, .data⟩ (by simp) rfl) rfl; exact AnyOrder.sv rfl rfl (.slice (some ⟨b2, o2, none⟩) n c2) (by have hk : w2.cell? ⟨q6, 20, none⟩ = some (.slice (some ⟨b2, o2, none⟩) n c2) := ((HB2.out.trans (st.inv.mono HB2.out.size)).cell (p := ⟨q6, 20, none⟩) HQ6.out).trans K20.out; generalize a1.eval = ρ at ec ef e0 ⊢; simp [execOp, e0, go_sem, hk]) st.inv (Below.refl _ _) rfl)
             | 9, ho => (injection ho with ho; subst ho; have e0 : a1.eval (.tmp 20) = .int .i64 (k2 : Int) := st.old hl 20 (by kernel_rfl); exact AnyOrder.sv rfl rfl (.int .i64 (k2 : Int)) (AnyOrder.run_move e0) st.inv (Below.refl _ _) rfl)
             | 10, ho => (injection ho with ho; subst ho; have ec := AnyOrder.evc a1; have ef := AnyOrder.evf a1; have e0 : a1.eval (.tmp 300) = .slice (some ⟨b2, o2, none⟩) n c2 := st.done 8 300 (hdep ⟨8, .data⟩ (by simp) rfl) rfl; have e1 : a1.eval (.tmp 301) = .int .i64 (k2 : Int) := st.done 9 301 (hdep ⟨9, .data⟩ (by simp) rfl) rfl; exact AnyOrder.sv rfl rfl (ptr b2 (o2 + k2 * 8)) (by generalize a1.eval = ρ at ec ef e0 e1 ⊢; simp [execOp, e0, e1, go_sem, b3, b4]) st.inv (Below.refl _ _) rfl)
             | 11, ho => (injection ho with ho; subst ho; have e0 : a1.eval (.tmp 302) = ptr b2 (o2 + k2 * 8) := st.done 10 302 (hdep ⟨10, .data⟩ (by simp) rfl) rfl; exact AnyOrder.sv rfl rfl (z.V) (run_load_kp e0 (rng_below K2.out L2.out st.inv)) st.inv (Below.refl _ _) rfl)
             | 12, ho => (injection ho with ho; subst ho; have e0 : a1.eval (.tmp 295) = z.V := st.done 3 295 (hdep ⟨3, .data⟩ (by simp) rfl) rfl; have e1 : a1.eval (.tmp 303) = z.V := st.done 11 303 (hdep ⟨11, .data⟩ (by simp) rfl) rfl; exact AnyOrder.sv rfl rfl (.bool false) (run_neq26b e0 e1 (by rw [K.beq_self]; rfl)) st.inv (Below.refl _ _) rfl)
             | n + 13, ho => exact absurd hin (by omega)
            ·intro w2 hJ
             simp only [AnyOrder.finK, List.take_succ_cons, List.take_zero, List.drop_succ_cons, List.drop_zero, Act.put, List.setIfInBounds_toArray, List.set_cons_zero, List.set_cons_succ]
             go_wp2_with fail
             go_roundg (n - (k2 + 1))
             case measure => have := HG2.out; omega
             case rel => exact ⟨k2 + 1, by omega, rfl, (by have := HNB.out; rw [IntWalk.wrap64_in _ (by omega)]; rfl), HB2.out.trans (hJ.mono HB2.out.size)⟩
           ·have hkn : k2 = n := by omega
            have b3 : ¬ (k2 : Int) < (n : Int) := by omega
            have HXd := Lib.hid (HXb.out.step HB2.out)
            have CT := Lib.hid HXd.out.vs.tries
            clear hkn hlt2 hk2 HRA HRB K20
            go_wp2_with (go_at_call 22; (with_reducible refine (CT.out).mono ?_); rintro e V12 ⟨rfl, hb12⟩)
            have HXe := Lib.hid (HXd.out.step hb12)
            go_roundg (N - (j + 1))
            case measure => have := HG.out; have := HJ.out; omega
            case rel => exact ⟨j + 1, x2, hs2, xs2, ss, uu2, by have := HJ.out; omega, by have := HJ.out; omega, rfl, rfl, rfl, rfl, HXe.out, by have := HCO.out.len; have := HHJ.out; omega, by have := HCO.out.n; have := HN2.out; omega, (by have h1 := HCO.out.stale; have h2 := HM2.out; split at h1 <;> omega), by have := HCO.out.t; have := HT2.out; omega⟩
      ·have hne : (e != 0) = true := by simpa using he
       have HX5 := Lib.hid HJS.out.st
       clear he HJS HAP HNI HSM
       go_wp2_with fail
       go_roundg (N - (j + 1))
       case measure => have := HG.out; have := HJ.out; omega
       case rel => exact ⟨j + 1, x, hs, xs, ss, uu, by have := HJ.out; omega, by have := HJ.out; omega, rfl, rfl, rfl, rfl, HX5.out, by have := HHJ.out; omega, by have := HN2.out; omega, by have := HM2.out; omega, by have := HT2.out; omega⟩
   ·as_aux_lemma =>
     have h1 := hk1; have h7 := hk7; have h8 := hk8
     have h2 : y.kind ≠ 2 := fun e => hd (.inl e)
     have h3 : y.kind ≠ 3 := fun e => hd (.inr (.inl e))
     have h4 : y.kind ≠ 4 := fun e => hd (.inr (.inr (.inl e)))
     have h5 : y.kind ≠ 5 := fun e => hd (.inr (.inr (.inr (.inl e))))
     have h6 : y.kind ≠ 6 := fun e => hd (.inr (.inr (.inr (.inr (.inl e)))))
     have h9 : y.kind ≠ 9 := fun e => hd (.inr (.inr (.inr (.inr (.inr e)))))
     clear hk1 hk7 hk8 hd
     go_upto_if 112 with fail
     clear kk0
     have d1 : (y.kind == 1) = false := by simpa using h1
     have d2 : (y.kind == 2) = false := by simpa using h2
     have d3 : (y.kind == 3) = false := by simpa using h3
     have d4 : (y.kind == 4) = false := by simpa using h4
     have d5 : (y.kind == 5) = false := by simpa using h5
     have d6 : (y.kind == 6) = false := by simpa using h6
     have d7 : (y.kind == 7) = false := by simpa using h7
     have d8 : (y.kind == 8) = false := by simpa using h8
     have d9 : (y.kind == 9) = false := by simpa using h9
     clear h1 h2 h3 h4 h5 h6 h7 h8 h9
     generalize y.kind = yk at *
     go_upto_region 20 with fail
     have hl200 : hs.length ≤ 200 := by have := HHJ.out; have := HJ.out; omega
     have HL2 := Lib.hid hl200
     have hxl : xs.length ≤ 1000 := by have := HJS.out.st.vs.len; omega
     have HXL := Lib.hid hxl
     clear hl200 hxl
     refine AnyOrder.region_kinds2 10 [.eq (ptr g 0), .eq (ptr q11 10), .eq (.int .i64 y.n), .of (RwG (since xs y.n)), .eq (ptr q6 0), .eq (ptr q11 10), .eq (.int .i64 y.n), .of (RwG (since xs y.n)), .eq (.bool true), .eq (.bool false)] (fun wx => Below V4.heap.size V4 wx) (by kernel_rfl) (by kernel_rfl) rfl (by kernel_rfl) (below_drewN (Below.refl _ _) 1) (by intro p wa wb hp hj hb v hv; simp at hp; rcases hp with rfl | rfl <;> (first | exact RwG.keep hv hb | exact RwG.keep hv hb | fail)) ?_ ?_
     ·intro i o listed a1 w2 hin ho st hl hdep
      match i, ho with
      | 0, ho => (injection ho with ho; subst ho; have e0 : a1.eval (.tmp 5) = ptr g 0 := st.old hl 5 (by kernel_rfl); exact AnyOrder.sv rfl rfl (ptr g 0) (AnyOrder.run_move e0) st.inv (Below.refl _ _) rfl)
      | 1, ho => (injection ho with ho; subst ho; have ec := AnyOrder.evc a1; have ef := AnyOrder.evf a1; have e0 : a1.eval (.tmp 11) = ptr q11 0 := st.old hl 11 (by kernel_rfl); exact AnyOrder.sv rfl rfl (ptr q11 10) (by generalize a1.eval = ρ at ec ef e0 ⊢; simp [execOp, ec, ef, e0, IntWalk.i64_left, go_sem]) st.inv (Below.refl _ _) rfl)
      | 2, ho => (injection ho with ho; subst ho; have ec := AnyOrder.evc a1; have ef := AnyOrder.evf a1; have e0 : a1.eval (.tmp 103) = ptr q11 10 := st.done 1 103 (hdep ⟨1, .data⟩ (by simp) rfl) rfl; exact AnyOrder.sv rfl rfl (.int .i64 y.n) (by have hk := DdAt.k10 (HJS.out.step st.inv).dd; generalize a1.eval = ρ at ec ef e0 ⊢; simp [execOp, e0, go_sem, hk]) st.inv (Below.refl _ _) rfl)
      | 3, ho => (injection ho with ho; subst ho; have ec := AnyOrder.evc a1; have ef := AnyOrder.evf a1; have e0 : a1.eval (.tmp 102) = ptr g 0 := st.done 0 102 (hdep ⟨0, .data⟩ (by simp) rfl) rfl; have e1 : a1.eval (.tmp 104) = .int .i64 y.n := st.done 2 104 (hdep ⟨2, .data⟩ (by simp) rfl) rfl; exact AnyOrder.step_call rfl (AnyOrder.wanted_none rfl) 9 #[ptr g 0, .int .i64 y.n] (by generalize a1.eval = ρ at ec ef e0 e1 ⊢; simp [execOp, ec, ef, e0, e1, go_sem]) (((HJS.out.step st.inv).st.vs.since HL2.out y.n).mono (fun e w4 h => by obtain ⟨vk, rfl, ho, hb⟩ := h; exact ⟨_, rfl, st.inv.trans (hb.mono st.inv.size), hb, ho.owO.rd⟩)))
      | 4, ho => (injection ho with ho; subst ho; have e0 : a1.eval (.tmp 6) = ptr q6 0 := st.old hl 6 (by kernel_rfl); exact AnyOrder.sv rfl rfl (ptr q6 0) (AnyOrder.run_move e0) st.inv (Below.refl _ _) rfl)
      | 5, ho => (injection ho with ho; subst ho; have ec := AnyOrder.evc a1; have ef := AnyOrder.evf a1; have e0 : a1.eval (.tmp 11) = ptr q11 0 := st.old hl 11 (by kernel_rfl); exact AnyOrder.sv rfl rfl (ptr q11 10) (by generalize a1.eval = ρ at ec ef e0 ⊢; simp [execOp, ec, ef, e0, IntWalk.i64_left, go_sem]) st.inv (Below.refl _ _) rfl)
      | 6, ho => (injection ho with ho; subst ho; have ec := AnyOrder.evc a1; have ef := AnyOrder.evf a1; have e0 : a1.eval (.tmp 107) = ptr q11 10 := st.done 5 107 (hdep ⟨5, .data⟩ (by simp) rfl) rfl; exact AnyOrder.sv rfl rfl (.int .i64 y.n) (by have hk := DdAt.k10 (HJS.out.step st.inv).dd; generalize a1.eval = ρ at ec ef e0 ⊢; simp [execOp, e0, go_sem, hk]) st.inv (Below.refl _ _) rfl)
      | 7, ho => (injection ho with ho; subst ho; have ec := AnyOrder.evc a1; have ef := AnyOrder.evf a1; have e0 : a1.eval (.tmp 106) = ptr q6 0 := st.done 4 106 (hdep ⟨4, .data⟩ (by simp) rfl) rfl; have e1 : a1.eval (.tmp 108) = .int .i64 y.n := st.done 6 108 (hdep ⟨6, .data⟩ (by simp) rfl) rfl; exact AnyOrder.step_call rfl (AnyOrder.wanted_none rfl) 17 #[ptr q6 0, .int .i64 y.n] (by generalize a1.eval = ρ at ec ef e0 e1 ⊢; simp [execOp, ec, ef, e0, e1, go_sem]) ((rsince_any (n := y.n) (HJS.out.step st.inv).st.uv (HJS.out.step st.inv).st.uo.rd (HJS.out.step st.inv).st.vs.rises HXL.out).mono (fun e w4 h => by obtain ⟨vk, rfl, ho, hb⟩ := h; exact ⟨_, rfl, st.inv.trans (hb.mono st.inv.size), hb, ho.rd⟩)))
      | 8, ho => (injection ho with ho; subst ho; have ec := AnyOrder.evc a1; have ef := AnyOrder.evf a1; have e0 := st.done 3 105 (hdep ⟨3, .data⟩ (by simp) rfl) rfl; have e1 := st.done 7 109 (hdep ⟨7, .data⟩ (by simp) rfl) rfl; obtain ⟨v0, f0⟩ : ∃ v, a1.eval (.tmp 105) = v := ⟨_, rfl⟩; obtain ⟨v1, f1⟩ : ∃ v, a1.eval (.tmp 109) = v := ⟨_, rfl⟩; rw [f0] at e0; rw [f1] at e1; have e0 : Sh.Rd eG w2 v0 (since xs y.n) := e0; have e1 : Sh.Rd eG w2 v1 (since xs y.n) := e1; exact AnyOrder.step_call rfl (AnyOrder.wanted_none rfl) 18 #[v0, v1] (by generalize a1.eval = ρ at ec ef f0 f1 ⊢; simp [execOp, ec, ef, f0, f1, go_sem]) ((changes_rows e0 e1 (Nat.le_trans (Nat.le_trans (List.length_drop ▸ Nat.sub_le _ _) HXL.out) (by decide))).mono (fun e w4 h => by obtain ⟨rfl, hb⟩ := h; exact ⟨_, rfl, st.inv.trans (hb.mono st.inv.size), hb, by rw [decide_eq_true rfl]; rfl⟩)))
      | 9, ho => (injection ho with ho; subst ho; have ec := AnyOrder.evc a1; have ef := AnyOrder.evf a1; have e0 : a1.eval (.tmp 110) = .bool true := st.done 8 110 (hdep ⟨8, .data⟩ (by simp) rfl) rfl; exact AnyOrder.sv rfl rfl (.bool false) (by generalize a1.eval = ρ at ec ef e0 ⊢; simp [execOp, ec, ef, e0, IntWalk.i64_left, go_sem]) st.inv (Below.refl _ _) rfl)
      | n + 10, ho => exact absurd hin (by omega)
     ·intro V5 hJ5
      simp only [AnyOrder.finK, List.take_succ_cons, List.take_zero, List.drop_succ_cons, List.drop_zero, Act.put, List.setIfInBounds_toArray, List.set_cons_zero, List.set_cons_succ]
      intro v3 h3 v7 h7
      clear h3 h7
      have HX5 := Lib.hid (HJS.out.step hJ5).st
      clear HJS hJ5 HSM HL2 HXL
      go_wp2_with fail
      go_roundg (N - (j + 1))
      case measure => have := HG.out; have := HJ.out; omega
      case rel => exact ⟨j + 1, x, hs, xs, ss, uu, by have := HJ.out; omega, by have := HJ.out; omega, rfl, rfl, rfl, rfl, HX5.out, by have := HHJ.out; omega, by have := HN2.out; omega, by have := HM2.out; omega, by have := HT2.out; omega⟩
  ·have hx : ¬ (j < N ∧ j < 80) := hlt
   rcases Nat.lt_or_ge j N with hjN | hjN
   ·have b3 : (j : Int) < (N : Int) := by omega
    have b6 : ¬ (j : Int) < 80 := by omega
    clear hjN
    have hl200 : hs.length ≤ 200 := by have := HHJ.out; omega
    have hxl : xs.length ≤ 1000 := by have := HX.out.vs.len; omega
    have CS := Lib.hid (HX.out.vs.since hl200 0)
    have HXL := Lib.hid hxl
    clear hl200 hxl hx hj hj80
    go_wp2_with (go_at_call 9; (with_reducible refine (CS.out).mono ?_); rintro e Va ⟨va, rfl, hoa, hba⟩)
    have HXa := Lib.hid (HX.out.step hba)
    have HOA := Lib.hid hoa
    refine (rsince_any (n := 0) HXa.out.uv HXa.out.uo.rd HXa.out.vs.rises HXL.out).mono ?_
    rintro e Vb ⟨vb, rfl, hob, hbb⟩
    have HOB := Lib.hid hob
    have HXb := Lib.hid (HXa.out.step hbb)
    have HBB := Lib.hid hbb
    clear hoa hba hob hbb CS HX
    go_wp2_with fail
    have CG := changes_rows ((HOA.out.owO.rd).below HBB.out) HOB.out.rd (Nat.le_trans (Nat.le_trans (List.length_drop ▸ Nat.sub_le _ _) HXL.out) (by decide))
    rw [show decide (since xs 0 = since xs 0) = true from decide_eq_true rfl] at CG
    refine CG.mono ?_
    rintro e Vc ⟨rfl, hbc⟩
    have HBC := Lib.hid (HXb.out.vs.bel.trans (hbc.mono HXb.out.vs.bel.size))
    clear hbc
    go_wp2_with fail
    go_ret
    exact ⟨rfl, HBC.out⟩
   ·have b3 : ¬ (j : Int) < (N : Int) := by omega
    clear hjN
    have hl200 : hs.length ≤ 200 := by have := HHJ.out; omega
    have hxl : xs.length ≤ 1000 := by have := HX.out.vs.len; omega
    have CS := Lib.hid (HX.out.vs.since hl200 0)
    have HXL := Lib.hid hxl
    clear hl200 hxl hx hj hj80
    go_wp2_with (go_at_call 9; (with_reducible refine (CS.out).mono ?_); rintro e Va ⟨va, rfl, hoa, hba⟩)
    have HXa := Lib.hid (HX.out.step hba)
    have HOA := Lib.hid hoa
    refine (rsince_any (n := 0) HXa.out.uv HXa.out.uo.rd HXa.out.vs.rises HXL.out).mono ?_
    rintro e Vb ⟨vb, rfl, hob, hbb⟩
    have HOB := Lib.hid hob
    have HXb := Lib.hid (HXa.out.step hbb)
    have HBB := Lib.hid hbb
    clear hoa hba hob hbb CS HX
    go_wp2_with fail
    have CG := changes_rows ((HOA.out.owO.rd).below HBB.out) HOB.out.rd (Nat.le_trans (Nat.le_trans (List.length_drop ▸ Nat.sub_le _ _) HXL.out) (by decide))
    rw [show decide (since xs 0 = since xs 0) = true from decide_eq_true rfl] at CG
    refine CG.mono ?_
    rintro e Vc ⟨rfl, hbc⟩
    have HBC := Lib.hid (HXb.out.vs.bel.trans (hbc.mono HXb.out.vs.bel.size))
    clear hbc
    go_wp2_with fail
    go_ret
    exact ⟨rfl, HBC.out⟩
end Go.Proofs.YtplapoenhohliaaGreat
