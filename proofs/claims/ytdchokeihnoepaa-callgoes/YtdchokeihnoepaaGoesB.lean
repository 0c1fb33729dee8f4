/- A call goes on by its rows alone: the walk of the statement CallGoes. -/
import Derived.Test.YtdchokeihnoepaaGoesA
import Derived.Deep.CutBlock
namespace Go.Proofs.Ytdchokeihnoepaa
open Go.RowKit Go.Lib
set_option linter.unusedVariables false
set_option linter.unusedSimpArgs false

set_option maxRecDepth 100000 in
set_option maxHeartbeats 3200000 in
theorem cg_new (c : Cfg) (x : K) (A : Option Addr) (cap : Nat) (zs : List Int) (w : World) (m : Int) (hm : m ≠ 0) (cn : (∀ W, Calls Try.prog 6 #[c.V, x.V, .int .i64 1, .int .i64 2, .int .i64 3] W fun e w' => e = .returned (.tuple #[zk.V, .int .i64 m]) ∧ Below W.heap.size W w')) : Calls Try.prog 3 #[c.V, x.V, .slice A zs.length cap] w (Yes w true) := by
  have CN := Lib.hid cn; clear cn
  have CW := Lib.hid awake_any
  have d_m : decide (m = 0) = false := (by simpa using hm); have n_m : (m != 0) = true := (by simpa using hm); have q_m : (m == 0) = false := (by simpa using hm)
  clear hm
  generalize zs.length = len
  have HDUO := Lib.hid (Duo.new w c x)
  go_enter Try.func3, Try.ntmps3
  go_upto_region 1 with fail
  obtain ⟨W0, hW⟩ : ∃ W, (w.alloc (.cells c.cells 24)).alloc (.cells x.cells 26) = W := ⟨_, rfl⟩
  rw [hW] at HDUO ⊢; clear hW
  generalize w.heap.size + 1 = pX at HDUO ⊢
  generalize w.heap.size = pC at HDUO ⊢
  have HC := Lib.hid HDUO.out.cat; have HX := Lib.hid HDUO.out.at_; have BW := Lib.hid HDUO.out.bel; clear HDUO
  go_wp2_with fail
  refine (CW.out _).mono ?_
  rintro e v0 ⟨rfl, hb⟩
  have HC := Lib.hid (HC.out.step hb)
  have HX := Lib.hid (HX.out.step hb)
  have BW := Lib.hid (BW.out.trans (hb.mono BW.out.size)); clear hb
  go_wp2_with (first | ((with_reducible apply wpList_load_cat (h := HC.out)); exact rfl; exact rfl; exact rfl) | ((with_reducible apply wpList_load_kat (h := HX.out)); exact rfl; exact rfl; exact rfl))
  refine (CN.out _).mono ?_
  rintro e v1 ⟨rfl, hb⟩
  have HC := Lib.hid (HC.out.step hb)
  have HX := Lib.hid (HX.out.step hb)
  have BW := Lib.hid (BW.out.trans (hb.mono BW.out.size)); clear hb
  have HY := Lib.hid (KAt.new v1 zk); have hb := below_new v1 (.cells zk.cells 26)
  have HC := Lib.hid (HC.out.step hb)
  have HX := Lib.hid (HX.out.step hb)
  have BW := Lib.hid (BW.out.trans (hb.mono BW.out.size))
  go_upto_region 4 with ((with_reducible apply wpList_store_knew (c := zk)); exact rfl; exact rfl; exact rfl; exact rfl)
  obtain ⟨V1, hW⟩ : ∃ W, v1.alloc (.cells zk.cells 26) = W := ⟨_, rfl⟩
  rw [hW] at HC HX HY BW ⊢; clear hW hb
  generalize v1.heap.size = pY at HY ⊢
  go_wp2_with fail
  go_ret
  exact ⟨rfl, BW.out⟩
set_option maxRecDepth 100000 in
set_option maxHeartbeats 20000000 in
theorem cg_walk (c : Cfg) (x : K) (A : Option Addr) (cap : Nat) (zs : List Int) (w : World) (y0 : K) (hA : IntsAt w w.heap.size A zs) (hz : ∀ i, i < zs.length → inI64 (zs.getD i 0)) (hok : okc c = true) (hkd : x.kind = 1 ∨ x.kind = 2 ∨ x.kind = 3 ∨ x.kind = 4) (hinv : Inv c x y0) (hlv : livesK y0 = true) (cn : (∀ W, Calls Try.prog 6 #[c.V, x.V, .int .i64 1, .int .i64 2, .int .i64 3] W fun e w' => e = .returned (.tuple #[y0.V, .int .i64 0]) ∧ Below W.heap.size W w')) : Calls Try.prog 3 #[c.V, x.V, .slice A zs.length cap] w (Yes w true) := by
  have CN := Lib.hid cn; clear cn
  have CW := Lib.hid awake_any
  have HZ0 := Lib.hid hA; have HINV := Lib.hid hinv; have HOK := Lib.hid hok; have HKD := Lib.hid hkd; have HLV := Lib.hid hlv
  clear hA hinv hok hkd hlv
  have HDUO := Lib.hid (Duo.new w c x)
  go_enter Try.func3, Try.ntmps3
  go_upto_region 1 with fail
  obtain ⟨W0, hW⟩ : ∃ W, (w.alloc (.cells c.cells 24)).alloc (.cells x.cells 26) = W := ⟨_, rfl⟩
  rw [hW] at HDUO ⊢; clear hW
  generalize w.heap.size + 1 = pX at HDUO ⊢
  generalize w.heap.size = pC at HDUO ⊢
  have HC := Lib.hid HDUO.out.cat; have HX := Lib.hid HDUO.out.at_; have BW := Lib.hid HDUO.out.bel; clear HDUO
  go_wp2_with fail
  refine (CW.out _).mono ?_
  rintro e v0 ⟨rfl, hb⟩
  have HC := Lib.hid (HC.out.step hb)
  have HX := Lib.hid (HX.out.step hb)
  have BW := Lib.hid (BW.out.trans (hb.mono BW.out.size)); clear hb
  go_wp2_with (first | ((with_reducible apply wpList_load_cat (h := HC.out)); exact rfl; exact rfl; exact rfl) | ((with_reducible apply wpList_load_kat (h := HX.out)); exact rfl; exact rfl; exact rfl))
  refine (CN.out _).mono ?_
  rintro e v1 ⟨rfl, hb⟩
  have HC := Lib.hid (HC.out.step hb)
  have HX := Lib.hid (HX.out.step hb)
  have BW := Lib.hid (BW.out.trans (hb.mono BW.out.size)); clear hb
  have HG := Lib.hid (GSt.first BW.out HC.out HX.out y0)
  go_upto_region 4 with ((with_reducible apply wpList_store_knew (c := y0)); exact rfl; exact rfl; exact rfl; exact rfl)
  obtain ⟨V1, hW⟩ : ∃ W, v1.alloc (.cells y0.cells 26) = W := ⟨_, rfl⟩
  rw [hW] at HG ⊢; clear hW HC HX BW
  generalize v1.heap.size = pY at HG ⊢
  go_wp2_with fail
  go_loopg [9, 10] 60 (fun gh s9 s10 wx => ∃ (i : Nat) (y : K), i ≤ 60 ∧ gh = 60 - i ∧ s10 = .int .i64 (i : Int) ∧ s9 = .bool (!livesK y) ∧ GSt w wx pC pX pY c x y ∧ Inv c x y)
  case atStart => exact ⟨0, y0, by omega, rfl, rfl, by rw [HLV.out]; rfl, HG.out, HINV.out⟩
  case round =>
    obtain ⟨i, y, hi, hg, rfl, rfl, hst, hinv⟩ := hrel
    have HGH := Lib.hid hg; have HS := Lib.hid hst; have HI := Lib.hid hinv
    clear hg hst hinv HG HINV HLV
    by_cases h1 : i < zs.length
    · have e1 : decide ((i : Int) < (zs.length : Int)) = true := (by simpa using h1); have e1n : decide (i < zs.length) = true := (by simpa using h1)
      by_cases h2 : i < 60
      · have e2 : decide ((i : Int) < 60) = true := (by simp; omega); have e2n : decide (i < 60) = true := (by simpa using h2)
        obtain ⟨b, off, rfl, hblt, hc0⟩ := HZ0.out i h1
        have hcell := (HS.out.bel.cell (p := ⟨b, off + i, none⟩) hblt).trans hc0
        have HV := Lib.hid (hz i h1)
        clear hc0 HZ0 hblt hz
        generalize zs.getD i 0 = v at *
        generalize zs.length = len at *
        generalize hen : (!livesK y) = en at *
        have HEN := Lib.hid hen; clear hen
        have HN := Lib.hid (deed_in v)
        clear HV
        go_upto_region 11 with fail
        generalize wrap64 ((IntKind.u64.wrap v).tmod 64) = n at *
        generalize IntKind.u64.wrap v = uv at *
        clear hcell
        have HY := Lib.hid HS.out.y_
        have HZS := Lib.hid (HS.out.new y)
        go_upto_region 12 with (first | ((with_reducible apply wpList_load_kat (h := HY.out)); exact rfl; exact rfl; exact rfl) | ((with_reducible apply wpList_store_knew (c := y)); exact rfl; exact rfl; exact rfl; exact rfl))
        obtain ⟨W5, hW⟩ : ∃ W, wr.alloc (.cells y.cells 26) = W := ⟨_, rfl⟩
        rw [hW] at HZS ⊢; clear hW HY HS
        generalize wr.heap.size = pZ at HZS ⊢
        go_upto_block 2 with fail
        have HX6 : Hid (n.tmod 6 = 0 ∨ n.tmod 6 = 1 ∨ n.tmod 6 = 2 ∨ n.tmod 6 = 3 ∨ n.tmod 6 = 4 ∨ n.tmod 6 = 5) := Lib.hid (deed_six HN.out)
        go_cut [13] from 25 to 202 (fun s13 wx => ∃ (z : K) (m : Int), s13 = .int .i64 m ∧ ZSt w wx pC pX pY pZ c x y z ∧ Fair c x y (z, m))
        case first =>
          have C7 := Lib.hid (fun N => fair_as (fun W => assign_any c y N W) (fair_assign HOK.out HI.out N))
          have C8 := Lib.hid (fun N => fair_as (fun W => leave_any c y N W) (fair_leave HOK.out HI.out N))
          have C9 := Lib.hid (fair_as (fun W => board_any y W) (fair_board HOK.out HI.out))
          have C10 := Lib.hid (fair_as (fun W => serve_any y W) (fair_serve HOK.out HI.out))
          have C11 := Lib.hid (fair_as (fun W => cancel_any y W) (fair_cancel HOK.out HI.out))
          have C12 := Lib.hid (fair_as (fun W => expire_any y W) (fair_expire HOK.out HI.out))
          have HY := Lib.hid HZS.out.g.y_; have HC := Lib.hid HZS.out.g.cat
          rcases HX6.out with hx | hx | hx | hx | hx | hx
          · rw [hx]; clear hx
            as_aux_lemma =>
              go_wp2_with (first | ((with_reducible apply wpList_load_cat (h := HC.out)); exact rfl; exact rfl; exact rfl) | ((with_reducible apply wpList_load_kat (h := HY.out)); exact rfl; exact rfl; exact rfl))
              refine (C7.out _ _).mono ?_
              rintro e w1 ⟨z, m, rfl, hb, hf⟩
              have HZ1 := Lib.hid (HZS.out.step hb); have HQ := Lib.hid HZ1.out.z_; have HF := Lib.hid hf; clear hb hf HZS HY HC
              go_wp2_with ((with_reducible apply wpList_store_kat (c := z) (hq := HQ.out)); exact rfl; exact rfl; exact rfl; exact rfl)
              go_meet
              exact ⟨z, m, rfl, HZ1.out.setZ z, HF.out⟩
          · rw [hx]; clear hx
            as_aux_lemma =>
              go_wp2_with (first | ((with_reducible apply wpList_load_cat (h := HC.out)); exact rfl; exact rfl; exact rfl) | ((with_reducible apply wpList_load_kat (h := HY.out)); exact rfl; exact rfl; exact rfl))
              refine (C8.out _ _).mono ?_
              rintro e w1 ⟨z, m, rfl, hb, hf⟩
              have HZ1 := Lib.hid (HZS.out.step hb); have HQ := Lib.hid HZ1.out.z_; have HF := Lib.hid hf; clear hb hf HZS HY HC
              go_wp2_with ((with_reducible apply wpList_store_kat (c := z) (hq := HQ.out)); exact rfl; exact rfl; exact rfl; exact rfl)
              go_meet
              exact ⟨z, m, rfl, HZ1.out.setZ z, HF.out⟩
          · rw [hx]; clear hx
            as_aux_lemma =>
              go_wp2_with ((with_reducible apply wpList_load_kat (h := HY.out)); exact rfl; exact rfl; exact rfl)
              refine (C9.out _).mono ?_
              rintro e w1 ⟨z, m, rfl, hb, hf⟩
              have HZ1 := Lib.hid (HZS.out.step hb); have HQ := Lib.hid HZ1.out.z_; have HF := Lib.hid hf; clear hb hf HZS HY HC
              go_wp2_with ((with_reducible apply wpList_store_kat (c := z) (hq := HQ.out)); exact rfl; exact rfl; exact rfl; exact rfl)
              go_meet
              exact ⟨z, m, rfl, HZ1.out.setZ z, HF.out⟩
          · rw [hx]; clear hx
            as_aux_lemma =>
              go_wp2_with ((with_reducible apply wpList_load_kat (h := HY.out)); exact rfl; exact rfl; exact rfl)
              refine (C10.out _).mono ?_
              rintro e w1 ⟨z, m, rfl, hb, hf⟩
              have HZ1 := Lib.hid (HZS.out.step hb); have HQ := Lib.hid HZ1.out.z_; have HF := Lib.hid hf; clear hb hf HZS HY HC
              go_wp2_with ((with_reducible apply wpList_store_kat (c := z) (hq := HQ.out)); exact rfl; exact rfl; exact rfl; exact rfl)
              go_meet
              exact ⟨z, m, rfl, HZ1.out.setZ z, HF.out⟩
          · rw [hx]; clear hx
            as_aux_lemma =>
              go_wp2_with ((with_reducible apply wpList_load_kat (h := HY.out)); exact rfl; exact rfl; exact rfl)
              refine (C11.out _).mono ?_
              rintro e w1 ⟨z, m, rfl, hb, hf⟩
              have HZ1 := Lib.hid (HZS.out.step hb); have HQ := Lib.hid HZ1.out.z_; have HF := Lib.hid hf; clear hb hf HZS HY HC
              go_wp2_with ((with_reducible apply wpList_store_kat (c := z) (hq := HQ.out)); exact rfl; exact rfl; exact rfl; exact rfl)
              go_meet
              exact ⟨z, m, rfl, HZ1.out.setZ z, HF.out⟩
          · rw [hx]; clear hx
            as_aux_lemma =>
              go_wp2_with ((with_reducible apply wpList_load_kat (h := HY.out)); exact rfl; exact rfl; exact rfl)
              refine (C12.out _).mono ?_
              rintro e w1 ⟨z, m, rfl, hb, hf⟩
              have HZ1 := Lib.hid (HZS.out.step hb); have HQ := Lib.hid HZ1.out.z_; have HF := Lib.hid hf; clear hb hf HZS HY HC
              go_wp2_with ((with_reducible apply wpList_store_kat (c := z) (hq := HQ.out)); exact rfl; exact rfl; exact rfl; exact rfl)
              go_meet
              exact ⟨z, m, rfl, HZ1.out.setZ z, HF.out⟩
        case rest =>
          obtain ⟨z, m, rfl, hzs, hf⟩ := hcut
          have HS := Lib.hid hzs; clear hzs HZS HX6 HN
          rcases hf with ⟨hm, hz⟩ | ⟨hm, hgood⟩
          · have hm : m ≠ 0 := hm
            have hz : z = zk := hz
            subst hz
            have d_m : decide (m = 0) = false := (by simpa using hm); have n_m : (m != 0) = true := (by simpa using hm); have q_m : (m == 0) = false := (by simpa using hm)
            clear hm
            have HZ := Lib.hid HS.out.z_
            have HB : Hid ((!K.beq zk zk) = false) := Lib.hid (by rw [K.beq_self]; rfl)
            go_wp2_with (first | ((with_reducible apply wpList_load_kat (h := HZ.out)); exact rfl; exact rfl; exact rfl) | ((with_reducible apply wpList_neq_kat (c := zk) (d := zk) (hb := HB.out)); exact rfl; exact rfl; exact rfl; exact rfl))
            go_roundg (60 - (i + 1))
            case measure => have := HGH.out; omega
            case rel => exact ⟨i + 1, y, by omega, rfl, by go_num, by rw [HEN.out], HS.out.g, HI.out⟩
          · have hm : m = 0 := hm
            subst hm
            obtain ⟨hi2, hmay, hlv⟩ := (show Good c x y z from hgood)
            have hen : en = false := by rw [← HEN.out, hlv]; rfl
            subst hen
            have CM := Lib.hid (yes_as (n := true) (fun W => may_any c y z W) hmay)
            have CG := Lib.hid (num_as (n := goalK z) (fun W => goal_any z W) rfl)
            have CL := Lib.hid (fun W => lives_any z W)
            have HI2 := Lib.hid hi2
            clear hmay hlv hgood HEN HI
            have HG1 := Lib.hid (HI2.out.met HKD.out)
            generalize goalK z = g at *
            have HY := Lib.hid HS.out.g.y_; have HC := Lib.hid HS.out.g.cat; have HZ := Lib.hid HS.out.z_
            clear hi2
            go_wp2_with (first | ((with_reducible apply wpList_load_cat (h := HC.out)); exact rfl; exact rfl; exact rfl) | ((with_reducible apply wpList_load_kat (h := HY.out)); exact rfl; exact rfl; exact rfl) | ((with_reducible apply wpList_load_kat (h := HZ.out)); exact rfl; exact rfl; exact rfl))
            refine (CM.out _).mono ?_
            rintro e w1 ⟨rfl, hb⟩
            have HS := Lib.hid (HS.out.step hb); clear hb HY HC HZ
            have z0 := HS.out.z_.get0; have z1 := HS.out.z_.get1; have z6 := HS.out.z_.get6; have z7 := HS.out.z_.get7; have z3 := HS.out.z_.get3
            have x1 := HS.out.g.x_.get1; have x3 := HS.out.g.x_.get3
            rw [HI2.out.id] at z0; rw [HI2.out.kind] at z1; rw [HI2.out.own] at z6; rw [HI2.out.born] at z7; rw [HI2.out.dto] at z3
            have HZ := Lib.hid HS.out.z_
            go_upto_region 31 with fail
            clear z0 z1 z6 z7 z3 x1 x3
            go_wp2_with ((with_reducible apply wpList_load_kat (h := HZ.out)); exact rfl; exact rfl; exact rfl)
            refine (CG.out _).mono ?_
            rintro e w2 ⟨rfl, hb⟩
            have HS := Lib.hid (HS.out.step hb); clear hb HZ
            have c0 := HS.out.g.cat.get (k := 0) (by omega)
            have g1 : decide (g < 1) = false := (by have := HG1.out.1; simp; omega); have g2 : decide (c.get 0 < g) = false := (by have := HG1.out.2; simp; omega)
            generalize c.get 0 = fs at *
            go_upto_region 34 with fail
            clear c0 g1 g2
            have HST : Hid (z.st = 1 ∨ z.st = 2 ∨ z.st = 3 ∨ z.st = 4 ∨ z.st = 5 ∨ z.st = 6) := Lib.hid (by have := HI2.out.st; omega)
            have HZ := Lib.hid HS.out.z_
            rcases HST.out with hs | hs | hs | hs | hs | hs
            · as_aux_lemma =>
                have HS5 := Lib.hid hs; clear hs HST
                have hl : livesK z = true := by simp [livesK, HS5.out]
                rw [hl] at CL
                have HL := Lib.hid hl; clear hl
                refine AnyOrder.region_kinds2 16 [.eq (z.V), .eq (.bool true), .eq (ptr pZ 5), .eq (.int .i64 1), .eq (.bool false), .eq (.bool false), .eq (ptr pZ 5), .eq (.int .i64 1), .eq (.bool false), .eq (.bool false), .eq (.bool false), .eq (ptr pZ 5), .eq (.int .i64 1), .eq (.bool false), .eq (.bool false), .eq (.bool false)] (fun wx => Below w2.heap.size w2 wx) (by kernel_rfl) (by kernel_rfl) rfl (by kernel_rfl) (below_drewN (Below.refl _ _) 1) (fun p _ _ hp => by simp at hp) ?_ ?_
                · intro i o listed a1 w2 hin ho st hl hdep
                  match i, ho with
                  | 0, ho => (injection ho with ho; subst ho; have ec : ∀ v, a1.eval (.const v) = v := fun _ => rfl; have ef : ∀ f, a1.eval (.func f) = .func (.func f) #[] #[] := fun _ => rfl; have e0 : a1.eval (.tmp 12) = ptr pZ 0 := st.old hl 12 (by kernel_rfl); exact AnyOrder.step_value rfl (AnyOrder.wanted_none rfl) (z.V) (run_load_k e0 (HZ.out.step st.inv)) st.inv (Below.refl _ _) rfl)
                  | 1, ho => (injection ho with ho; subst ho; have ec : ∀ v, a1.eval (.const v) = v := fun _ => rfl; have ef : ∀ f, a1.eval (.func f) = .func (.func f) #[] #[] := fun _ => rfl; have e0 : a1.eval (.tmp 148) = z.V := st.done 0 148 (hdep ⟨0, .data⟩ (by simp) rfl) rfl; exact AnyOrder.step_call rfl (AnyOrder.wanted_none rfl) 15 #[z.V] (by generalize a1.eval = ρ at ec ef e0 ⊢; simp [execOp, ec, ef, e0, go_sem]) ((CL.out _).mono (fun e w3 h => by obtain ⟨rfl, hb⟩ := h; exact ⟨_, rfl, st.inv.trans (hb.mono st.inv.size), hb, rfl⟩)))
                  | 2, ho => (injection ho with ho; subst ho; have ec : ∀ v, a1.eval (.const v) = v := fun _ => rfl; have ef : ∀ f, a1.eval (.func f) = .func (.func f) #[] #[] := fun _ => rfl; have e0 : a1.eval (.tmp 12) = ptr pZ 0 := st.old hl 12 (by kernel_rfl); exact AnyOrder.step_value rfl (AnyOrder.wanted_none rfl) (ptr pZ 5) (by generalize a1.eval = ρ at ec ef e0 ⊢; simp [execOp, ec, ef, e0, IntWalk.i64_left, go_sem]) st.inv (Below.refl _ _) rfl)
                  | 3, ho => (injection ho with ho; subst ho; have ec : ∀ v, a1.eval (.const v) = v := fun _ => rfl; have ef : ∀ f, a1.eval (.func f) = .func (.func f) #[] #[] := fun _ => rfl; have e0 : a1.eval (.tmp 150) = ptr pZ 5 := st.done 2 150 (hdep ⟨2, .data⟩ (by simp) rfl) rfl; exact AnyOrder.step_value rfl (AnyOrder.wanted_none rfl) (.int .i64 1) (by generalize a1.eval = ρ at ec ef e0 ⊢; simp [execOp, ec, ef, e0, IntWalk.i64_left, (show _ = some (Value.int IntKind.i64 1) from ((HZ.out.step st.inv).get5.trans (by rw [HS5.out]))), go_sem]) st.inv (Below.refl _ _) rfl)
                  | 4, ho => (injection ho with ho; subst ho; have ec : ∀ v, a1.eval (.const v) = v := fun _ => rfl; have ef : ∀ f, a1.eval (.func f) = .func (.func f) #[] #[] := fun _ => rfl; have e0 : a1.eval (.tmp 151) = .int .i64 1 := st.done 3 151 (hdep ⟨3, .data⟩ (by simp) rfl) rfl; exact AnyOrder.step_value rfl (AnyOrder.wanted_none rfl) (.bool false) (by generalize a1.eval = ρ at ec ef e0 ⊢; simp [execOp, ec, ef, e0, IntWalk.i64_left, go_sem]) st.inv (Below.refl _ _) rfl)
                  | 5, ho => (injection ho with ho; subst ho; have ec : ∀ v, a1.eval (.const v) = v := fun _ => rfl; have ef : ∀ f, a1.eval (.func f) = .func (.func f) #[] #[] := fun _ => rfl; have e0 : a1.eval (.tmp 152) = .bool false := st.done 4 152 (hdep ⟨4, .data⟩ (by simp) rfl) rfl; exact AnyOrder.step_value rfl (AnyOrder.wanted_none rfl) (.bool false) (AnyOrder.run_move e0) st.inv (Below.refl _ _) rfl)
                  | 6, ho => (injection ho with ho; subst ho; have ec : ∀ v, a1.eval (.const v) = v := fun _ => rfl; have ef : ∀ f, a1.eval (.func f) = .func (.func f) #[] #[] := fun _ => rfl; have e0 : a1.eval (.tmp 12) = ptr pZ 0 := st.old hl 12 (by kernel_rfl); have eg : a1.eval (.tmp 153) = .bool false := st.done 5 153 (hdep ⟨5, .guard⟩ (by simp) rfl) rfl; exact AnyOrder.step_value rfl ((AnyOrder.wanted_of rfl rfl eg).trans rfl) (ptr pZ 5) (by generalize a1.eval = ρ at ec ef e0 ⊢; simp [execOp, ec, ef, e0, IntWalk.i64_left, go_sem]) st.inv (Below.refl _ _) rfl)
                  | 7, ho => (injection ho with ho; subst ho; have ec : ∀ v, a1.eval (.const v) = v := fun _ => rfl; have ef : ∀ f, a1.eval (.func f) = .func (.func f) #[] #[] := fun _ => rfl; have e0 : a1.eval (.tmp 154) = ptr pZ 5 := st.done 6 154 (hdep ⟨6, .data⟩ (by simp) rfl) rfl; have eg : a1.eval (.tmp 153) = .bool false := st.done 5 153 (hdep ⟨5, .guard⟩ (by simp) rfl) rfl; exact AnyOrder.step_value rfl ((AnyOrder.wanted_of rfl rfl eg).trans rfl) (.int .i64 1) (by generalize a1.eval = ρ at ec ef e0 ⊢; simp [execOp, ec, ef, e0, IntWalk.i64_left, (show _ = some (Value.int IntKind.i64 1) from ((HZ.out.step st.inv).get5.trans (by rw [HS5.out]))), go_sem]) st.inv (Below.refl _ _) rfl)
                  | 8, ho => (injection ho with ho; subst ho; have ec : ∀ v, a1.eval (.const v) = v := fun _ => rfl; have ef : ∀ f, a1.eval (.func f) = .func (.func f) #[] #[] := fun _ => rfl; have e0 : a1.eval (.tmp 155) = .int .i64 1 := st.done 7 155 (hdep ⟨7, .data⟩ (by simp) rfl) rfl; have eg : a1.eval (.tmp 153) = .bool false := st.done 5 153 (hdep ⟨5, .guard⟩ (by simp) rfl) rfl; exact AnyOrder.step_value rfl ((AnyOrder.wanted_of rfl rfl eg).trans rfl) (.bool false) (by generalize a1.eval = ρ at ec ef e0 ⊢; simp [execOp, ec, ef, e0, IntWalk.i64_left, go_sem]) st.inv (Below.refl _ _) rfl)
                  | 9, ho => (injection ho with ho; subst ho; have ec : ∀ v, a1.eval (.const v) = v := fun _ => rfl; have ef : ∀ f, a1.eval (.func f) = .func (.func f) #[] #[] := fun _ => rfl; have e0 : a1.eval (.tmp 153) = .bool false := st.done 5 153 (hdep ⟨5, .data⟩ (by simp) rfl) rfl; have e1 : a1.eval (.tmp 156) = .bool false := st.done 8 156 (hdep ⟨8, .data⟩ (by simp) rfl) rfl; exact AnyOrder.step_value rfl (AnyOrder.wanted_none rfl) (.bool false) (by generalize a1.eval = ρ at ec ef e0 e1 ⊢; simp [execOp, ec, ef, e0, e1, IntWalk.i64_left, go_sem]) st.inv (Below.refl _ _) rfl)
                  | 10, ho => (injection ho with ho; subst ho; have ec : ∀ v, a1.eval (.const v) = v := fun _ => rfl; have ef : ∀ f, a1.eval (.func f) = .func (.func f) #[] #[] := fun _ => rfl; have e0 : a1.eval (.tmp 157) = .bool false := st.done 9 157 (hdep ⟨9, .data⟩ (by simp) rfl) rfl; exact AnyOrder.step_value rfl (AnyOrder.wanted_none rfl) (.bool false) (AnyOrder.run_move e0) st.inv (Below.refl _ _) rfl)
                  | 11, ho => (injection ho with ho; subst ho; have ec : ∀ v, a1.eval (.const v) = v := fun _ => rfl; have ef : ∀ f, a1.eval (.func f) = .func (.func f) #[] #[] := fun _ => rfl; have e0 : a1.eval (.tmp 12) = ptr pZ 0 := st.old hl 12 (by kernel_rfl); have eg : a1.eval (.tmp 158) = .bool false := st.done 10 158 (hdep ⟨10, .guard⟩ (by simp) rfl) rfl; exact AnyOrder.step_value rfl ((AnyOrder.wanted_of rfl rfl eg).trans rfl) (ptr pZ 5) (by generalize a1.eval = ρ at ec ef e0 ⊢; simp [execOp, ec, ef, e0, IntWalk.i64_left, go_sem]) st.inv (Below.refl _ _) rfl)
                  | 12, ho => (injection ho with ho; subst ho; have ec : ∀ v, a1.eval (.const v) = v := fun _ => rfl; have ef : ∀ f, a1.eval (.func f) = .func (.func f) #[] #[] := fun _ => rfl; have e0 : a1.eval (.tmp 159) = ptr pZ 5 := st.done 11 159 (hdep ⟨11, .data⟩ (by simp) rfl) rfl; have eg : a1.eval (.tmp 158) = .bool false := st.done 10 158 (hdep ⟨10, .guard⟩ (by simp) rfl) rfl; exact AnyOrder.step_value rfl ((AnyOrder.wanted_of rfl rfl eg).trans rfl) (.int .i64 1) (by generalize a1.eval = ρ at ec ef e0 ⊢; simp [execOp, ec, ef, e0, IntWalk.i64_left, (show _ = some (Value.int IntKind.i64 1) from ((HZ.out.step st.inv).get5.trans (by rw [HS5.out]))), go_sem]) st.inv (Below.refl _ _) rfl)
                  | 13, ho => (injection ho with ho; subst ho; have ec : ∀ v, a1.eval (.const v) = v := fun _ => rfl; have ef : ∀ f, a1.eval (.func f) = .func (.func f) #[] #[] := fun _ => rfl; have e0 : a1.eval (.tmp 160) = .int .i64 1 := st.done 12 160 (hdep ⟨12, .data⟩ (by simp) rfl) rfl; have eg : a1.eval (.tmp 158) = .bool false := st.done 10 158 (hdep ⟨10, .guard⟩ (by simp) rfl) rfl; exact AnyOrder.step_value rfl ((AnyOrder.wanted_of rfl rfl eg).trans rfl) (.bool false) (by generalize a1.eval = ρ at ec ef e0 ⊢; simp [execOp, ec, ef, e0, IntWalk.i64_left, go_sem]) st.inv (Below.refl _ _) rfl)
                  | 14, ho => (injection ho with ho; subst ho; have ec : ∀ v, a1.eval (.const v) = v := fun _ => rfl; have ef : ∀ f, a1.eval (.func f) = .func (.func f) #[] #[] := fun _ => rfl; have e0 : a1.eval (.tmp 158) = .bool false := st.done 10 158 (hdep ⟨10, .data⟩ (by simp) rfl) rfl; have e1 : a1.eval (.tmp 161) = .bool false := st.done 13 161 (hdep ⟨13, .data⟩ (by simp) rfl) rfl; exact AnyOrder.step_value rfl (AnyOrder.wanted_none rfl) (.bool false) (by generalize a1.eval = ρ at ec ef e0 e1 ⊢; simp [execOp, ec, ef, e0, e1, IntWalk.i64_left, go_sem]) st.inv (Below.refl _ _) rfl)
                  | 15, ho => (injection ho with ho; subst ho; have ec : ∀ v, a1.eval (.const v) = v := fun _ => rfl; have ef : ∀ f, a1.eval (.func f) = .func (.func f) #[] #[] := fun _ => rfl; have e0 : a1.eval (.tmp 149) = .bool true := st.done 1 149 (hdep ⟨1, .data⟩ (by simp) rfl) rfl; have e1 : a1.eval (.tmp 162) = .bool false := st.done 14 162 (hdep ⟨14, .data⟩ (by simp) rfl) rfl; exact AnyOrder.step_value rfl (AnyOrder.wanted_none rfl) (.bool false) (by generalize a1.eval = ρ at ec ef e0 e1 ⊢; simp [execOp, ec, ef, e0, e1, IntWalk.i64_left, go_sem]) st.inv (Below.refl _ _) rfl)
                  | n + 16, ho => exact absurd hin (by omega)
                · intro w3 hJ
                  simp only [AnyOrder.finK, List.take_succ_cons, List.take_zero, List.drop_succ_cons, List.drop_zero, Act.put, List.setIfInBounds_toArray, List.set_cons_zero, List.set_cons_succ]
                  have HS := Lib.hid (HS.out.step (below_drop hJ)); clear HZ
                  have z5 := HS.out.z_.get5; have z4 := HS.out.z_.get4; have z1 := HS.out.z_.get1; have c1 := HS.out.g.cat.get (k := 1) (by omega)
                  rw [HS5.out] at z5
                  have HZ := Lib.hid HS.out.z_
                  have hwait := HI2.out.wait HS5.out; have hkind := HI2.out.kind
                  generalize c.get 1 = cs at *
                  by_cases h3 : z.kind = 3
                  · have b1 : decide (z.kind = 3) = true := (by simpa using h3); have b2 : (z.kind != 3) = false := (by simpa using h3)
                    clear hwait hkind h3
                    go_upto_region 38 with fail
                    clear z5 z4 z1 c1
                    go_wp2_with ((with_reducible apply wpList_load_kat (h := HZ.out)); exact rfl; exact rfl; exact rfl)
                    refine (CL.out _).mono ?_
                    rintro e w4 ⟨rfl, hb⟩
                    have HS := Lib.hid (HS.out.step hb); clear hb HZ
                    have HZ := Lib.hid HS.out.z_; have HQ := Lib.hid HS.out.g.y_
                    go_wp2_with (first | ((with_reducible apply wpList_load_kat (h := HZ.out)); exact rfl; exact rfl; exact rfl) | ((with_reducible apply wpList_store_kat (c := z) (hq := HQ.out)); exact rfl; exact rfl; exact rfl; exact rfl))
                    go_roundg (60 - (i + 1))
                    case measure => have := HGH.out; omega
                    case rel => exact ⟨i + 1, z, by omega, rfl, by go_num, by rw [HL.out]; rfl, HS.out.g.setY z, HI2.out⟩
                  · have b1 : decide (z.kind = 3) = false := (by simpa using h3); have b2 : (z.kind != 3) = true := (by simpa using h3)
                    have hcar := hwait (by rw [← hkind]; exact h3)
                    rw [hcar] at z4
                    clear hwait hkind h3 hcar
                    go_upto_region 38 with fail
                    clear z5 z4 z1 c1
                    go_wp2_with ((with_reducible apply wpList_load_kat (h := HZ.out)); exact rfl; exact rfl; exact rfl)
                    refine (CL.out _).mono ?_
                    rintro e w4 ⟨rfl, hb⟩
                    have HS := Lib.hid (HS.out.step hb); clear hb HZ
                    have HZ := Lib.hid HS.out.z_; have HQ := Lib.hid HS.out.g.y_
                    go_wp2_with (first | ((with_reducible apply wpList_load_kat (h := HZ.out)); exact rfl; exact rfl; exact rfl) | ((with_reducible apply wpList_store_kat (c := z) (hq := HQ.out)); exact rfl; exact rfl; exact rfl; exact rfl))
                    go_roundg (60 - (i + 1))
                    case measure => have := HGH.out; omega
                    case rel => exact ⟨i + 1, z, by omega, rfl, by go_num, by rw [HL.out]; rfl, HS.out.g.setY z, HI2.out⟩
            · as_aux_lemma =>
                have HS5 := Lib.hid hs; clear hs HST
                have hl : livesK z = true := by simp [livesK, HS5.out]
                rw [hl] at CL
                have HL := Lib.hid hl; clear hl
                refine AnyOrder.region_kinds2 16 [.eq (z.V), .eq (.bool true), .eq (ptr pZ 5), .eq (.int .i64 2), .eq (.bool false), .eq (.bool false), .eq (ptr pZ 5), .eq (.int .i64 2), .eq (.bool false), .eq (.bool false), .eq (.bool false), .eq (ptr pZ 5), .eq (.int .i64 2), .eq (.bool false), .eq (.bool false), .eq (.bool false)] (fun wx => Below w2.heap.size w2 wx) (by kernel_rfl) (by kernel_rfl) rfl (by kernel_rfl) (below_drewN (Below.refl _ _) 1) (fun p _ _ hp => by simp at hp) ?_ ?_
                · intro i o listed a1 w2 hin ho st hl hdep
                  match i, ho with
                  | 0, ho => (injection ho with ho; subst ho; have ec : ∀ v, a1.eval (.const v) = v := fun _ => rfl; have ef : ∀ f, a1.eval (.func f) = .func (.func f) #[] #[] := fun _ => rfl; have e0 : a1.eval (.tmp 12) = ptr pZ 0 := st.old hl 12 (by kernel_rfl); exact AnyOrder.step_value rfl (AnyOrder.wanted_none rfl) (z.V) (run_load_k e0 (HZ.out.step st.inv)) st.inv (Below.refl _ _) rfl)
                  | 1, ho => (injection ho with ho; subst ho; have ec : ∀ v, a1.eval (.const v) = v := fun _ => rfl; have ef : ∀ f, a1.eval (.func f) = .func (.func f) #[] #[] := fun _ => rfl; have e0 : a1.eval (.tmp 148) = z.V := st.done 0 148 (hdep ⟨0, .data⟩ (by simp) rfl) rfl; exact AnyOrder.step_call rfl (AnyOrder.wanted_none rfl) 15 #[z.V] (by generalize a1.eval = ρ at ec ef e0 ⊢; simp [execOp, ec, ef, e0, go_sem]) ((CL.out _).mono (fun e w3 h => by obtain ⟨rfl, hb⟩ := h; exact ⟨_, rfl, st.inv.trans (hb.mono st.inv.size), hb, rfl⟩)))
                  | 2, ho => (injection ho with ho; subst ho; have ec : ∀ v, a1.eval (.const v) = v := fun _ => rfl; have ef : ∀ f, a1.eval (.func f) = .func (.func f) #[] #[] := fun _ => rfl; have e0 : a1.eval (.tmp 12) = ptr pZ 0 := st.old hl 12 (by kernel_rfl); exact AnyOrder.step_value rfl (AnyOrder.wanted_none rfl) (ptr pZ 5) (by generalize a1.eval = ρ at ec ef e0 ⊢; simp [execOp, ec, ef, e0, IntWalk.i64_left, go_sem]) st.inv (Below.refl _ _) rfl)
                  | 3, ho => (injection ho with ho; subst ho; have ec : ∀ v, a1.eval (.const v) = v := fun _ => rfl; have ef : ∀ f, a1.eval (.func f) = .func (.func f) #[] #[] := fun _ => rfl; have e0 : a1.eval (.tmp 150) = ptr pZ 5 := st.done 2 150 (hdep ⟨2, .data⟩ (by simp) rfl) rfl; exact AnyOrder.step_value rfl (AnyOrder.wanted_none rfl) (.int .i64 2) (by generalize a1.eval = ρ at ec ef e0 ⊢; simp [execOp, ec, ef, e0, IntWalk.i64_left, (show _ = some (Value.int IntKind.i64 2) from ((HZ.out.step st.inv).get5.trans (by rw [HS5.out]))), go_sem]) st.inv (Below.refl _ _) rfl)
                  | 4, ho => (injection ho with ho; subst ho; have ec : ∀ v, a1.eval (.const v) = v := fun _ => rfl; have ef : ∀ f, a1.eval (.func f) = .func (.func f) #[] #[] := fun _ => rfl; have e0 : a1.eval (.tmp 151) = .int .i64 2 := st.done 3 151 (hdep ⟨3, .data⟩ (by simp) rfl) rfl; exact AnyOrder.step_value rfl (AnyOrder.wanted_none rfl) (.bool false) (by generalize a1.eval = ρ at ec ef e0 ⊢; simp [execOp, ec, ef, e0, IntWalk.i64_left, go_sem]) st.inv (Below.refl _ _) rfl)
                  | 5, ho => (injection ho with ho; subst ho; have ec : ∀ v, a1.eval (.const v) = v := fun _ => rfl; have ef : ∀ f, a1.eval (.func f) = .func (.func f) #[] #[] := fun _ => rfl; have e0 : a1.eval (.tmp 152) = .bool false := st.done 4 152 (hdep ⟨4, .data⟩ (by simp) rfl) rfl; exact AnyOrder.step_value rfl (AnyOrder.wanted_none rfl) (.bool false) (AnyOrder.run_move e0) st.inv (Below.refl _ _) rfl)
                  | 6, ho => (injection ho with ho; subst ho; have ec : ∀ v, a1.eval (.const v) = v := fun _ => rfl; have ef : ∀ f, a1.eval (.func f) = .func (.func f) #[] #[] := fun _ => rfl; have e0 : a1.eval (.tmp 12) = ptr pZ 0 := st.old hl 12 (by kernel_rfl); have eg : a1.eval (.tmp 153) = .bool false := st.done 5 153 (hdep ⟨5, .guard⟩ (by simp) rfl) rfl; exact AnyOrder.step_value rfl ((AnyOrder.wanted_of rfl rfl eg).trans rfl) (ptr pZ 5) (by generalize a1.eval = ρ at ec ef e0 ⊢; simp [execOp, ec, ef, e0, IntWalk.i64_left, go_sem]) st.inv (Below.refl _ _) rfl)
                  | 7, ho => (injection ho with ho; subst ho; have ec : ∀ v, a1.eval (.const v) = v := fun _ => rfl; have ef : ∀ f, a1.eval (.func f) = .func (.func f) #[] #[] := fun _ => rfl; have e0 : a1.eval (.tmp 154) = ptr pZ 5 := st.done 6 154 (hdep ⟨6, .data⟩ (by simp) rfl) rfl; have eg : a1.eval (.tmp 153) = .bool false := st.done 5 153 (hdep ⟨5, .guard⟩ (by simp) rfl) rfl; exact AnyOrder.step_value rfl ((AnyOrder.wanted_of rfl rfl eg).trans rfl) (.int .i64 2) (by generalize a1.eval = ρ at ec ef e0 ⊢; simp [execOp, ec, ef, e0, IntWalk.i64_left, (show _ = some (Value.int IntKind.i64 2) from ((HZ.out.step st.inv).get5.trans (by rw [HS5.out]))), go_sem]) st.inv (Below.refl _ _) rfl)
                  | 8, ho => (injection ho with ho; subst ho; have ec : ∀ v, a1.eval (.const v) = v := fun _ => rfl; have ef : ∀ f, a1.eval (.func f) = .func (.func f) #[] #[] := fun _ => rfl; have e0 : a1.eval (.tmp 155) = .int .i64 2 := st.done 7 155 (hdep ⟨7, .data⟩ (by simp) rfl) rfl; have eg : a1.eval (.tmp 153) = .bool false := st.done 5 153 (hdep ⟨5, .guard⟩ (by simp) rfl) rfl; exact AnyOrder.step_value rfl ((AnyOrder.wanted_of rfl rfl eg).trans rfl) (.bool false) (by generalize a1.eval = ρ at ec ef e0 ⊢; simp [execOp, ec, ef, e0, IntWalk.i64_left, go_sem]) st.inv (Below.refl _ _) rfl)
                  | 9, ho => (injection ho with ho; subst ho; have ec : ∀ v, a1.eval (.const v) = v := fun _ => rfl; have ef : ∀ f, a1.eval (.func f) = .func (.func f) #[] #[] := fun _ => rfl; have e0 : a1.eval (.tmp 153) = .bool false := st.done 5 153 (hdep ⟨5, .data⟩ (by simp) rfl) rfl; have e1 : a1.eval (.tmp 156) = .bool false := st.done 8 156 (hdep ⟨8, .data⟩ (by simp) rfl) rfl; exact AnyOrder.step_value rfl (AnyOrder.wanted_none rfl) (.bool false) (by generalize a1.eval = ρ at ec ef e0 e1 ⊢; simp [execOp, ec, ef, e0, e1, IntWalk.i64_left, go_sem]) st.inv (Below.refl _ _) rfl)
                  | 10, ho => (injection ho with ho; subst ho; have ec : ∀ v, a1.eval (.const v) = v := fun _ => rfl; have ef : ∀ f, a1.eval (.func f) = .func (.func f) #[] #[] := fun _ => rfl; have e0 : a1.eval (.tmp 157) = .bool false := st.done 9 157 (hdep ⟨9, .data⟩ (by simp) rfl) rfl; exact AnyOrder.step_value rfl (AnyOrder.wanted_none rfl) (.bool false) (AnyOrder.run_move e0) st.inv (Below.refl _ _) rfl)
                  | 11, ho => (injection ho with ho; subst ho; have ec : ∀ v, a1.eval (.const v) = v := fun _ => rfl; have ef : ∀ f, a1.eval (.func f) = .func (.func f) #[] #[] := fun _ => rfl; have e0 : a1.eval (.tmp 12) = ptr pZ 0 := st.old hl 12 (by kernel_rfl); have eg : a1.eval (.tmp 158) = .bool false := st.done 10 158 (hdep ⟨10, .guard⟩ (by simp) rfl) rfl; exact AnyOrder.step_value rfl ((AnyOrder.wanted_of rfl rfl eg).trans rfl) (ptr pZ 5) (by generalize a1.eval = ρ at ec ef e0 ⊢; simp [execOp, ec, ef, e0, IntWalk.i64_left, go_sem]) st.inv (Below.refl _ _) rfl)
                  | 12, ho => (injection ho with ho; subst ho; have ec : ∀ v, a1.eval (.const v) = v := fun _ => rfl; have ef : ∀ f, a1.eval (.func f) = .func (.func f) #[] #[] := fun _ => rfl; have e0 : a1.eval (.tmp 159) = ptr pZ 5 := st.done 11 159 (hdep ⟨11, .data⟩ (by simp) rfl) rfl; have eg : a1.eval (.tmp 158) = .bool false := st.done 10 158 (hdep ⟨10, .guard⟩ (by simp) rfl) rfl; exact AnyOrder.step_value rfl ((AnyOrder.wanted_of rfl rfl eg).trans rfl) (.int .i64 2) (by generalize a1.eval = ρ at ec ef e0 ⊢; simp [execOp, ec, ef, e0, IntWalk.i64_left, (show _ = some (Value.int IntKind.i64 2) from ((HZ.out.step st.inv).get5.trans (by rw [HS5.out]))), go_sem]) st.inv (Below.refl _ _) rfl)
                  | 13, ho => (injection ho with ho; subst ho; have ec : ∀ v, a1.eval (.const v) = v := fun _ => rfl; have ef : ∀ f, a1.eval (.func f) = .func (.func f) #[] #[] := fun _ => rfl; have e0 : a1.eval (.tmp 160) = .int .i64 2 := st.done 12 160 (hdep ⟨12, .data⟩ (by simp) rfl) rfl; have eg : a1.eval (.tmp 158) = .bool false := st.done 10 158 (hdep ⟨10, .guard⟩ (by simp) rfl) rfl; exact AnyOrder.step_value rfl ((AnyOrder.wanted_of rfl rfl eg).trans rfl) (.bool false) (by generalize a1.eval = ρ at ec ef e0 ⊢; simp [execOp, ec, ef, e0, IntWalk.i64_left, go_sem]) st.inv (Below.refl _ _) rfl)
                  | 14, ho => (injection ho with ho; subst ho; have ec : ∀ v, a1.eval (.const v) = v := fun _ => rfl; have ef : ∀ f, a1.eval (.func f) = .func (.func f) #[] #[] := fun _ => rfl; have e0 : a1.eval (.tmp 158) = .bool false := st.done 10 158 (hdep ⟨10, .data⟩ (by simp) rfl) rfl; have e1 : a1.eval (.tmp 161) = .bool false := st.done 13 161 (hdep ⟨13, .data⟩ (by simp) rfl) rfl; exact AnyOrder.step_value rfl (AnyOrder.wanted_none rfl) (.bool false) (by generalize a1.eval = ρ at ec ef e0 e1 ⊢; simp [execOp, ec, ef, e0, e1, IntWalk.i64_left, go_sem]) st.inv (Below.refl _ _) rfl)
                  | 15, ho => (injection ho with ho; subst ho; have ec : ∀ v, a1.eval (.const v) = v := fun _ => rfl; have ef : ∀ f, a1.eval (.func f) = .func (.func f) #[] #[] := fun _ => rfl; have e0 : a1.eval (.tmp 149) = .bool true := st.done 1 149 (hdep ⟨1, .data⟩ (by simp) rfl) rfl; have e1 : a1.eval (.tmp 162) = .bool false := st.done 14 162 (hdep ⟨14, .data⟩ (by simp) rfl) rfl; exact AnyOrder.step_value rfl (AnyOrder.wanted_none rfl) (.bool false) (by generalize a1.eval = ρ at ec ef e0 e1 ⊢; simp [execOp, ec, ef, e0, e1, IntWalk.i64_left, go_sem]) st.inv (Below.refl _ _) rfl)
                  | n + 16, ho => exact absurd hin (by omega)
                · intro w3 hJ
                  simp only [AnyOrder.finK, List.take_succ_cons, List.take_zero, List.drop_succ_cons, List.drop_zero, Act.put, List.setIfInBounds_toArray, List.set_cons_zero, List.set_cons_succ]
                  have HS := Lib.hid (HS.out.step (below_drop hJ)); clear HZ
                  have z5 := HS.out.z_.get5; have z4 := HS.out.z_.get4; have z1 := HS.out.z_.get1; have c1 := HS.out.g.cat.get (k := 1) (by omega)
                  rw [HS5.out] at z5
                  have HZ := Lib.hid HS.out.z_
                  have hcar := HI2.out.car (.inl HS5.out)
                  have a1 : decide (z.car < 1) = false := (by simp; omega); have a2 : decide (c.get 1 < z.car) = false := (by simp; omega)
                  clear hcar
                  generalize c.get 1 = cs at *
                  go_upto_region 38 with fail
                  clear z5 z4 z1 c1
                  go_wp2_with ((with_reducible apply wpList_load_kat (h := HZ.out)); exact rfl; exact rfl; exact rfl)
                  refine (CL.out _).mono ?_
                  rintro e w4 ⟨rfl, hb⟩
                  have HS := Lib.hid (HS.out.step hb); clear hb HZ
                  have HZ := Lib.hid HS.out.z_; have HQ := Lib.hid HS.out.g.y_
                  go_wp2_with (first | ((with_reducible apply wpList_load_kat (h := HZ.out)); exact rfl; exact rfl; exact rfl) | ((with_reducible apply wpList_store_kat (c := z) (hq := HQ.out)); exact rfl; exact rfl; exact rfl; exact rfl))
                  go_roundg (60 - (i + 1))
                  case measure => have := HGH.out; omega
                  case rel => exact ⟨i + 1, z, by omega, rfl, by go_num, by rw [HL.out]; rfl, HS.out.g.setY z, HI2.out⟩
            · as_aux_lemma =>
                have HS5 := Lib.hid hs; clear hs HST
                have hl : livesK z = true := by simp [livesK, HS5.out]
                rw [hl] at CL
                have HL := Lib.hid hl; clear hl
                refine AnyOrder.region_kinds2 16 [.eq (z.V), .eq (.bool true), .eq (ptr pZ 5), .eq (.int .i64 3), .eq (.bool false), .eq (.bool false), .eq (ptr pZ 5), .eq (.int .i64 3), .eq (.bool false), .eq (.bool false), .eq (.bool false), .eq (ptr pZ 5), .eq (.int .i64 3), .eq (.bool false), .eq (.bool false), .eq (.bool false)] (fun wx => Below w2.heap.size w2 wx) (by kernel_rfl) (by kernel_rfl) rfl (by kernel_rfl) (below_drewN (Below.refl _ _) 1) (fun p _ _ hp => by simp at hp) ?_ ?_
                · intro i o listed a1 w2 hin ho st hl hdep
                  match i, ho with
                  | 0, ho => (injection ho with ho; subst ho; have ec : ∀ v, a1.eval (.const v) = v := fun _ => rfl; have ef : ∀ f, a1.eval (.func f) = .func (.func f) #[] #[] := fun _ => rfl; have e0 : a1.eval (.tmp 12) = ptr pZ 0 := st.old hl 12 (by kernel_rfl); exact AnyOrder.step_value rfl (AnyOrder.wanted_none rfl) (z.V) (run_load_k e0 (HZ.out.step st.inv)) st.inv (Below.refl _ _) rfl)
                  | 1, ho => (injection ho with ho; subst ho; have ec : ∀ v, a1.eval (.const v) = v := fun _ => rfl; have ef : ∀ f, a1.eval (.func f) = .func (.func f) #[] #[] := fun _ => rfl; have e0 : a1.eval (.tmp 148) = z.V := st.done 0 148 (hdep ⟨0, .data⟩ (by simp) rfl) rfl; exact AnyOrder.step_call rfl (AnyOrder.wanted_none rfl) 15 #[z.V] (by generalize a1.eval = ρ at ec ef e0 ⊢; simp [execOp, ec, ef, e0, go_sem]) ((CL.out _).mono (fun e w3 h => by obtain ⟨rfl, hb⟩ := h; exact ⟨_, rfl, st.inv.trans (hb.mono st.inv.size), hb, rfl⟩)))
                  | 2, ho => (injection ho with ho; subst ho; have ec : ∀ v, a1.eval (.const v) = v := fun _ => rfl; have ef : ∀ f, a1.eval (.func f) = .func (.func f) #[] #[] := fun _ => rfl; have e0 : a1.eval (.tmp 12) = ptr pZ 0 := st.old hl 12 (by kernel_rfl); exact AnyOrder.step_value rfl (AnyOrder.wanted_none rfl) (ptr pZ 5) (by generalize a1.eval = ρ at ec ef e0 ⊢; simp [execOp, ec, ef, e0, IntWalk.i64_left, go_sem]) st.inv (Below.refl _ _) rfl)
                  | 3, ho => (injection ho with ho; subst ho; have ec : ∀ v, a1.eval (.const v) = v := fun _ => rfl; have ef : ∀ f, a1.eval (.func f) = .func (.func f) #[] #[] := fun _ => rfl; have e0 : a1.eval (.tmp 150) = ptr pZ 5 := st.done 2 150 (hdep ⟨2, .data⟩ (by simp) rfl) rfl; exact AnyOrder.step_value rfl (AnyOrder.wanted_none rfl) (.int .i64 3) (by generalize a1.eval = ρ at ec ef e0 ⊢; simp [execOp, ec, ef, e0, IntWalk.i64_left, (show _ = some (Value.int IntKind.i64 3) from ((HZ.out.step st.inv).get5.trans (by rw [HS5.out]))), go_sem]) st.inv (Below.refl _ _) rfl)
                  | 4, ho => (injection ho with ho; subst ho; have ec : ∀ v, a1.eval (.const v) = v := fun _ => rfl; have ef : ∀ f, a1.eval (.func f) = .func (.func f) #[] #[] := fun _ => rfl; have e0 : a1.eval (.tmp 151) = .int .i64 3 := st.done 3 151 (hdep ⟨3, .data⟩ (by simp) rfl) rfl; exact AnyOrder.step_value rfl (AnyOrder.wanted_none rfl) (.bool false) (by generalize a1.eval = ρ at ec ef e0 ⊢; simp [execOp, ec, ef, e0, IntWalk.i64_left, go_sem]) st.inv (Below.refl _ _) rfl)
                  | 5, ho => (injection ho with ho; subst ho; have ec : ∀ v, a1.eval (.const v) = v := fun _ => rfl; have ef : ∀ f, a1.eval (.func f) = .func (.func f) #[] #[] := fun _ => rfl; have e0 : a1.eval (.tmp 152) = .bool false := st.done 4 152 (hdep ⟨4, .data⟩ (by simp) rfl) rfl; exact AnyOrder.step_value rfl (AnyOrder.wanted_none rfl) (.bool false) (AnyOrder.run_move e0) st.inv (Below.refl _ _) rfl)
                  | 6, ho => (injection ho with ho; subst ho; have ec : ∀ v, a1.eval (.const v) = v := fun _ => rfl; have ef : ∀ f, a1.eval (.func f) = .func (.func f) #[] #[] := fun _ => rfl; have e0 : a1.eval (.tmp 12) = ptr pZ 0 := st.old hl 12 (by kernel_rfl); have eg : a1.eval (.tmp 153) = .bool false := st.done 5 153 (hdep ⟨5, .guard⟩ (by simp) rfl) rfl; exact AnyOrder.step_value rfl ((AnyOrder.wanted_of rfl rfl eg).trans rfl) (ptr pZ 5) (by generalize a1.eval = ρ at ec ef e0 ⊢; simp [execOp, ec, ef, e0, IntWalk.i64_left, go_sem]) st.inv (Below.refl _ _) rfl)
                  | 7, ho => (injection ho with ho; subst ho; have ec : ∀ v, a1.eval (.const v) = v := fun _ => rfl; have ef : ∀ f, a1.eval (.func f) = .func (.func f) #[] #[] := fun _ => rfl; have e0 : a1.eval (.tmp 154) = ptr pZ 5 := st.done 6 154 (hdep ⟨6, .data⟩ (by simp) rfl) rfl; have eg : a1.eval (.tmp 153) = .bool false := st.done 5 153 (hdep ⟨5, .guard⟩ (by simp) rfl) rfl; exact AnyOrder.step_value rfl ((AnyOrder.wanted_of rfl rfl eg).trans rfl) (.int .i64 3) (by generalize a1.eval = ρ at ec ef e0 ⊢; simp [execOp, ec, ef, e0, IntWalk.i64_left, (show _ = some (Value.int IntKind.i64 3) from ((HZ.out.step st.inv).get5.trans (by rw [HS5.out]))), go_sem]) st.inv (Below.refl _ _) rfl)
                  | 8, ho => (injection ho with ho; subst ho; have ec : ∀ v, a1.eval (.const v) = v := fun _ => rfl; have ef : ∀ f, a1.eval (.func f) = .func (.func f) #[] #[] := fun _ => rfl; have e0 : a1.eval (.tmp 155) = .int .i64 3 := st.done 7 155 (hdep ⟨7, .data⟩ (by simp) rfl) rfl; have eg : a1.eval (.tmp 153) = .bool false := st.done 5 153 (hdep ⟨5, .guard⟩ (by simp) rfl) rfl; exact AnyOrder.step_value rfl ((AnyOrder.wanted_of rfl rfl eg).trans rfl) (.bool false) (by generalize a1.eval = ρ at ec ef e0 ⊢; simp [execOp, ec, ef, e0, IntWalk.i64_left, go_sem]) st.inv (Below.refl _ _) rfl)
                  | 9, ho => (injection ho with ho; subst ho; have ec : ∀ v, a1.eval (.const v) = v := fun _ => rfl; have ef : ∀ f, a1.eval (.func f) = .func (.func f) #[] #[] := fun _ => rfl; have e0 : a1.eval (.tmp 153) = .bool false := st.done 5 153 (hdep ⟨5, .data⟩ (by simp) rfl) rfl; have e1 : a1.eval (.tmp 156) = .bool false := st.done 8 156 (hdep ⟨8, .data⟩ (by simp) rfl) rfl; exact AnyOrder.step_value rfl (AnyOrder.wanted_none rfl) (.bool false) (by generalize a1.eval = ρ at ec ef e0 e1 ⊢; simp [execOp, ec, ef, e0, e1, IntWalk.i64_left, go_sem]) st.inv (Below.refl _ _) rfl)
                  | 10, ho => (injection ho with ho; subst ho; have ec : ∀ v, a1.eval (.const v) = v := fun _ => rfl; have ef : ∀ f, a1.eval (.func f) = .func (.func f) #[] #[] := fun _ => rfl; have e0 : a1.eval (.tmp 157) = .bool false := st.done 9 157 (hdep ⟨9, .data⟩ (by simp) rfl) rfl; exact AnyOrder.step_value rfl (AnyOrder.wanted_none rfl) (.bool false) (AnyOrder.run_move e0) st.inv (Below.refl _ _) rfl)
                  | 11, ho => (injection ho with ho; subst ho; have ec : ∀ v, a1.eval (.const v) = v := fun _ => rfl; have ef : ∀ f, a1.eval (.func f) = .func (.func f) #[] #[] := fun _ => rfl; have e0 : a1.eval (.tmp 12) = ptr pZ 0 := st.old hl 12 (by kernel_rfl); have eg : a1.eval (.tmp 158) = .bool false := st.done 10 158 (hdep ⟨10, .guard⟩ (by simp) rfl) rfl; exact AnyOrder.step_value rfl ((AnyOrder.wanted_of rfl rfl eg).trans rfl) (ptr pZ 5) (by generalize a1.eval = ρ at ec ef e0 ⊢; simp [execOp, ec, ef, e0, IntWalk.i64_left, go_sem]) st.inv (Below.refl _ _) rfl)
                  | 12, ho => (injection ho with ho; subst ho; have ec : ∀ v, a1.eval (.const v) = v := fun _ => rfl; have ef : ∀ f, a1.eval (.func f) = .func (.func f) #[] #[] := fun _ => rfl; have e0 : a1.eval (.tmp 159) = ptr pZ 5 := st.done 11 159 (hdep ⟨11, .data⟩ (by simp) rfl) rfl; have eg : a1.eval (.tmp 158) = .bool false := st.done 10 158 (hdep ⟨10, .guard⟩ (by simp) rfl) rfl; exact AnyOrder.step_value rfl ((AnyOrder.wanted_of rfl rfl eg).trans rfl) (.int .i64 3) (by generalize a1.eval = ρ at ec ef e0 ⊢; simp [execOp, ec, ef, e0, IntWalk.i64_left, (show _ = some (Value.int IntKind.i64 3) from ((HZ.out.step st.inv).get5.trans (by rw [HS5.out]))), go_sem]) st.inv (Below.refl _ _) rfl)
                  | 13, ho => (injection ho with ho; subst ho; have ec : ∀ v, a1.eval (.const v) = v := fun _ => rfl; have ef : ∀ f, a1.eval (.func f) = .func (.func f) #[] #[] := fun _ => rfl; have e0 : a1.eval (.tmp 160) = .int .i64 3 := st.done 12 160 (hdep ⟨12, .data⟩ (by simp) rfl) rfl; have eg : a1.eval (.tmp 158) = .bool false := st.done 10 158 (hdep ⟨10, .guard⟩ (by simp) rfl) rfl; exact AnyOrder.step_value rfl ((AnyOrder.wanted_of rfl rfl eg).trans rfl) (.bool false) (by generalize a1.eval = ρ at ec ef e0 ⊢; simp [execOp, ec, ef, e0, IntWalk.i64_left, go_sem]) st.inv (Below.refl _ _) rfl)
                  | 14, ho => (injection ho with ho; subst ho; have ec : ∀ v, a1.eval (.const v) = v := fun _ => rfl; have ef : ∀ f, a1.eval (.func f) = .func (.func f) #[] #[] := fun _ => rfl; have e0 : a1.eval (.tmp 158) = .bool false := st.done 10 158 (hdep ⟨10, .data⟩ (by simp) rfl) rfl; have e1 : a1.eval (.tmp 161) = .bool false := st.done 13 161 (hdep ⟨13, .data⟩ (by simp) rfl) rfl; exact AnyOrder.step_value rfl (AnyOrder.wanted_none rfl) (.bool false) (by generalize a1.eval = ρ at ec ef e0 e1 ⊢; simp [execOp, ec, ef, e0, e1, IntWalk.i64_left, go_sem]) st.inv (Below.refl _ _) rfl)
                  | 15, ho => (injection ho with ho; subst ho; have ec : ∀ v, a1.eval (.const v) = v := fun _ => rfl; have ef : ∀ f, a1.eval (.func f) = .func (.func f) #[] #[] := fun _ => rfl; have e0 : a1.eval (.tmp 149) = .bool true := st.done 1 149 (hdep ⟨1, .data⟩ (by simp) rfl) rfl; have e1 : a1.eval (.tmp 162) = .bool false := st.done 14 162 (hdep ⟨14, .data⟩ (by simp) rfl) rfl; exact AnyOrder.step_value rfl (AnyOrder.wanted_none rfl) (.bool false) (by generalize a1.eval = ρ at ec ef e0 e1 ⊢; simp [execOp, ec, ef, e0, e1, IntWalk.i64_left, go_sem]) st.inv (Below.refl _ _) rfl)
                  | n + 16, ho => exact absurd hin (by omega)
                · intro w3 hJ
                  simp only [AnyOrder.finK, List.take_succ_cons, List.take_zero, List.drop_succ_cons, List.drop_zero, Act.put, List.setIfInBounds_toArray, List.set_cons_zero, List.set_cons_succ]
                  have HS := Lib.hid (HS.out.step (below_drop hJ)); clear HZ
                  have z5 := HS.out.z_.get5; have z4 := HS.out.z_.get4; have z1 := HS.out.z_.get1; have c1 := HS.out.g.cat.get (k := 1) (by omega)
                  rw [HS5.out] at z5
                  have HZ := Lib.hid HS.out.z_
                  have hcar := HI2.out.car (.inr HS5.out)
                  have a1 : decide (z.car < 1) = false := (by simp; omega); have a2 : decide (c.get 1 < z.car) = false := (by simp; omega)
                  clear hcar
                  generalize c.get 1 = cs at *
                  go_upto_region 38 with fail
                  clear z5 z4 z1 c1
                  go_wp2_with ((with_reducible apply wpList_load_kat (h := HZ.out)); exact rfl; exact rfl; exact rfl)
                  refine (CL.out _).mono ?_
                  rintro e w4 ⟨rfl, hb⟩
                  have HS := Lib.hid (HS.out.step hb); clear hb HZ
                  have HZ := Lib.hid HS.out.z_; have HQ := Lib.hid HS.out.g.y_
                  go_wp2_with (first | ((with_reducible apply wpList_load_kat (h := HZ.out)); exact rfl; exact rfl; exact rfl) | ((with_reducible apply wpList_store_kat (c := z) (hq := HQ.out)); exact rfl; exact rfl; exact rfl; exact rfl))
                  go_roundg (60 - (i + 1))
                  case measure => have := HGH.out; omega
                  case rel => exact ⟨i + 1, z, by omega, rfl, by go_num, by rw [HL.out]; rfl, HS.out.g.setY z, HI2.out⟩
            · as_aux_lemma =>
                have HS5 := Lib.hid hs; clear hs HST
                have hl : livesK z = false := by simp [livesK, HS5.out]
                rw [hl] at CL
                have HL := Lib.hid hl; clear hl
                refine AnyOrder.region_kinds2 16 [.eq (z.V), .eq (.bool false), .eq (ptr pZ 5), .eq (.int .i64 4), .eq (.bool true), .eq (.bool true), .eq (undef), .eq (undef), .eq (undef), .eq (.bool true), .eq (.bool true), .eq (undef), .eq (undef), .eq (undef), .eq (.bool true), .eq (.bool false)] (fun wx => Below w2.heap.size w2 wx) (by kernel_rfl) (by kernel_rfl) rfl (by kernel_rfl) (below_drewN (Below.refl _ _) 1) (fun p _ _ hp => by simp at hp) ?_ ?_
                · intro i o listed a1 w2 hin ho st hl hdep
                  match i, ho with
                  | 0, ho => (injection ho with ho; subst ho; have ec : ∀ v, a1.eval (.const v) = v := fun _ => rfl; have ef : ∀ f, a1.eval (.func f) = .func (.func f) #[] #[] := fun _ => rfl; have e0 : a1.eval (.tmp 12) = ptr pZ 0 := st.old hl 12 (by kernel_rfl); exact AnyOrder.step_value rfl (AnyOrder.wanted_none rfl) (z.V) (run_load_k e0 (HZ.out.step st.inv)) st.inv (Below.refl _ _) rfl)
                  | 1, ho => (injection ho with ho; subst ho; have ec : ∀ v, a1.eval (.const v) = v := fun _ => rfl; have ef : ∀ f, a1.eval (.func f) = .func (.func f) #[] #[] := fun _ => rfl; have e0 : a1.eval (.tmp 148) = z.V := st.done 0 148 (hdep ⟨0, .data⟩ (by simp) rfl) rfl; exact AnyOrder.step_call rfl (AnyOrder.wanted_none rfl) 15 #[z.V] (by generalize a1.eval = ρ at ec ef e0 ⊢; simp [execOp, ec, ef, e0, go_sem]) ((CL.out _).mono (fun e w3 h => by obtain ⟨rfl, hb⟩ := h; exact ⟨_, rfl, st.inv.trans (hb.mono st.inv.size), hb, rfl⟩)))
                  | 2, ho => (injection ho with ho; subst ho; have ec : ∀ v, a1.eval (.const v) = v := fun _ => rfl; have ef : ∀ f, a1.eval (.func f) = .func (.func f) #[] #[] := fun _ => rfl; have e0 : a1.eval (.tmp 12) = ptr pZ 0 := st.old hl 12 (by kernel_rfl); exact AnyOrder.step_value rfl (AnyOrder.wanted_none rfl) (ptr pZ 5) (by generalize a1.eval = ρ at ec ef e0 ⊢; simp [execOp, ec, ef, e0, IntWalk.i64_left, go_sem]) st.inv (Below.refl _ _) rfl)
                  | 3, ho => (injection ho with ho; subst ho; have ec : ∀ v, a1.eval (.const v) = v := fun _ => rfl; have ef : ∀ f, a1.eval (.func f) = .func (.func f) #[] #[] := fun _ => rfl; have e0 : a1.eval (.tmp 150) = ptr pZ 5 := st.done 2 150 (hdep ⟨2, .data⟩ (by simp) rfl) rfl; exact AnyOrder.step_value rfl (AnyOrder.wanted_none rfl) (.int .i64 4) (by generalize a1.eval = ρ at ec ef e0 ⊢; simp [execOp, ec, ef, e0, IntWalk.i64_left, (show _ = some (Value.int IntKind.i64 4) from ((HZ.out.step st.inv).get5.trans (by rw [HS5.out]))), go_sem]) st.inv (Below.refl _ _) rfl)
                  | 4, ho => (injection ho with ho; subst ho; have ec : ∀ v, a1.eval (.const v) = v := fun _ => rfl; have ef : ∀ f, a1.eval (.func f) = .func (.func f) #[] #[] := fun _ => rfl; have e0 : a1.eval (.tmp 151) = .int .i64 4 := st.done 3 151 (hdep ⟨3, .data⟩ (by simp) rfl) rfl; exact AnyOrder.step_value rfl (AnyOrder.wanted_none rfl) (.bool true) (by generalize a1.eval = ρ at ec ef e0 ⊢; simp [execOp, ec, ef, e0, IntWalk.i64_left, go_sem]) st.inv (Below.refl _ _) rfl)
                  | 5, ho => (injection ho with ho; subst ho; have ec : ∀ v, a1.eval (.const v) = v := fun _ => rfl; have ef : ∀ f, a1.eval (.func f) = .func (.func f) #[] #[] := fun _ => rfl; have e0 : a1.eval (.tmp 152) = .bool true := st.done 4 152 (hdep ⟨4, .data⟩ (by simp) rfl) rfl; exact AnyOrder.step_value rfl (AnyOrder.wanted_none rfl) (.bool true) (AnyOrder.run_move e0) st.inv (Below.refl _ _) rfl)
                  | 6, ho => (injection ho with ho; subst ho; have ec : ∀ v, a1.eval (.const v) = v := fun _ => rfl; have ef : ∀ f, a1.eval (.func f) = .func (.func f) #[] #[] := fun _ => rfl; have eg : a1.eval (.tmp 153) = .bool true := st.done 5 153 (hdep ⟨5, .guard⟩ (by simp) rfl) rfl; exact AnyOrder.step_skip rfl ((AnyOrder.wanted_of rfl rfl eg).trans rfl) st.inv rfl)
                  | 7, ho => (injection ho with ho; subst ho; have ec : ∀ v, a1.eval (.const v) = v := fun _ => rfl; have ef : ∀ f, a1.eval (.func f) = .func (.func f) #[] #[] := fun _ => rfl; have eg : a1.eval (.tmp 153) = .bool true := st.done 5 153 (hdep ⟨5, .guard⟩ (by simp) rfl) rfl; exact AnyOrder.step_skip rfl ((AnyOrder.wanted_of rfl rfl eg).trans rfl) st.inv rfl)
                  | 8, ho => (injection ho with ho; subst ho; have ec : ∀ v, a1.eval (.const v) = v := fun _ => rfl; have ef : ∀ f, a1.eval (.func f) = .func (.func f) #[] #[] := fun _ => rfl; have eg : a1.eval (.tmp 153) = .bool true := st.done 5 153 (hdep ⟨5, .guard⟩ (by simp) rfl) rfl; exact AnyOrder.step_skip rfl ((AnyOrder.wanted_of rfl rfl eg).trans rfl) st.inv rfl)
                  | 9, ho => (injection ho with ho; subst ho; have ec : ∀ v, a1.eval (.const v) = v := fun _ => rfl; have ef : ∀ f, a1.eval (.func f) = .func (.func f) #[] #[] := fun _ => rfl; have e0 : a1.eval (.tmp 153) = .bool true := st.done 5 153 (hdep ⟨5, .data⟩ (by simp) rfl) rfl; have e1 : a1.eval (.tmp 156) = undef := st.done 8 156 (hdep ⟨8, .data⟩ (by simp) rfl) rfl; exact AnyOrder.step_value rfl (AnyOrder.wanted_none rfl) (.bool true) (by generalize a1.eval = ρ at ec ef e0 e1 ⊢; simp [execOp, ec, ef, e0, e1, IntWalk.i64_left, go_sem]) st.inv (Below.refl _ _) rfl)
                  | 10, ho => (injection ho with ho; subst ho; have ec : ∀ v, a1.eval (.const v) = v := fun _ => rfl; have ef : ∀ f, a1.eval (.func f) = .func (.func f) #[] #[] := fun _ => rfl; have e0 : a1.eval (.tmp 157) = .bool true := st.done 9 157 (hdep ⟨9, .data⟩ (by simp) rfl) rfl; exact AnyOrder.step_value rfl (AnyOrder.wanted_none rfl) (.bool true) (AnyOrder.run_move e0) st.inv (Below.refl _ _) rfl)
                  | 11, ho => (injection ho with ho; subst ho; have ec : ∀ v, a1.eval (.const v) = v := fun _ => rfl; have ef : ∀ f, a1.eval (.func f) = .func (.func f) #[] #[] := fun _ => rfl; have eg : a1.eval (.tmp 158) = .bool true := st.done 10 158 (hdep ⟨10, .guard⟩ (by simp) rfl) rfl; exact AnyOrder.step_skip rfl ((AnyOrder.wanted_of rfl rfl eg).trans rfl) st.inv rfl)
                  | 12, ho => (injection ho with ho; subst ho; have ec : ∀ v, a1.eval (.const v) = v := fun _ => rfl; have ef : ∀ f, a1.eval (.func f) = .func (.func f) #[] #[] := fun _ => rfl; have eg : a1.eval (.tmp 158) = .bool true := st.done 10 158 (hdep ⟨10, .guard⟩ (by simp) rfl) rfl; exact AnyOrder.step_skip rfl ((AnyOrder.wanted_of rfl rfl eg).trans rfl) st.inv rfl)
                  | 13, ho => (injection ho with ho; subst ho; have ec : ∀ v, a1.eval (.const v) = v := fun _ => rfl; have ef : ∀ f, a1.eval (.func f) = .func (.func f) #[] #[] := fun _ => rfl; have eg : a1.eval (.tmp 158) = .bool true := st.done 10 158 (hdep ⟨10, .guard⟩ (by simp) rfl) rfl; exact AnyOrder.step_skip rfl ((AnyOrder.wanted_of rfl rfl eg).trans rfl) st.inv rfl)
                  | 14, ho => (injection ho with ho; subst ho; have ec : ∀ v, a1.eval (.const v) = v := fun _ => rfl; have ef : ∀ f, a1.eval (.func f) = .func (.func f) #[] #[] := fun _ => rfl; have e0 : a1.eval (.tmp 158) = .bool true := st.done 10 158 (hdep ⟨10, .data⟩ (by simp) rfl) rfl; have e1 : a1.eval (.tmp 161) = undef := st.done 13 161 (hdep ⟨13, .data⟩ (by simp) rfl) rfl; exact AnyOrder.step_value rfl (AnyOrder.wanted_none rfl) (.bool true) (by generalize a1.eval = ρ at ec ef e0 e1 ⊢; simp [execOp, ec, ef, e0, e1, IntWalk.i64_left, go_sem]) st.inv (Below.refl _ _) rfl)
                  | 15, ho => (injection ho with ho; subst ho; have ec : ∀ v, a1.eval (.const v) = v := fun _ => rfl; have ef : ∀ f, a1.eval (.func f) = .func (.func f) #[] #[] := fun _ => rfl; have e0 : a1.eval (.tmp 149) = .bool false := st.done 1 149 (hdep ⟨1, .data⟩ (by simp) rfl) rfl; have e1 : a1.eval (.tmp 162) = .bool true := st.done 14 162 (hdep ⟨14, .data⟩ (by simp) rfl) rfl; exact AnyOrder.step_value rfl (AnyOrder.wanted_none rfl) (.bool false) (by generalize a1.eval = ρ at ec ef e0 e1 ⊢; simp [execOp, ec, ef, e0, e1, IntWalk.i64_left, go_sem]) st.inv (Below.refl _ _) rfl)
                  | n + 16, ho => exact absurd hin (by omega)
                · intro w3 hJ
                  simp only [AnyOrder.finK, List.take_succ_cons, List.take_zero, List.drop_succ_cons, List.drop_zero, Act.put, List.setIfInBounds_toArray, List.set_cons_zero, List.set_cons_succ]
                  have HS := Lib.hid (HS.out.step (below_drop hJ)); clear HZ
                  have z5 := HS.out.z_.get5; have z4 := HS.out.z_.get4; have z1 := HS.out.z_.get1; have c1 := HS.out.g.cat.get (k := 1) (by omega)
                  rw [HS5.out] at z5
                  have HZ := Lib.hid HS.out.z_
                  generalize c.get 1 = cs at *
                  go_upto_region 38 with fail
                  clear z5 z4 z1 c1
                  go_wp2_with ((with_reducible apply wpList_load_kat (h := HZ.out)); exact rfl; exact rfl; exact rfl)
                  refine (CL.out _).mono ?_
                  rintro e w4 ⟨rfl, hb⟩
                  have HS := Lib.hid (HS.out.step hb); clear hb HZ
                  have HZ := Lib.hid HS.out.z_; have HQ := Lib.hid HS.out.g.y_
                  go_wp2_with (first | ((with_reducible apply wpList_load_kat (h := HZ.out)); exact rfl; exact rfl; exact rfl) | ((with_reducible apply wpList_store_kat (c := z) (hq := HQ.out)); exact rfl; exact rfl; exact rfl; exact rfl))
                  go_roundg (60 - (i + 1))
                  case measure => have := HGH.out; omega
                  case rel => exact ⟨i + 1, z, by omega, rfl, by go_num, by rw [HL.out]; rfl, HS.out.g.setY z, HI2.out⟩
            · as_aux_lemma =>
                have HS5 := Lib.hid hs; clear hs HST
                have hl : livesK z = false := by simp [livesK, HS5.out]
                rw [hl] at CL
                have HL := Lib.hid hl; clear hl
                refine AnyOrder.region_kinds2 16 [.eq (z.V), .eq (.bool false), .eq (ptr pZ 5), .eq (.int .i64 5), .eq (.bool false), .eq (.bool false), .eq (ptr pZ 5), .eq (.int .i64 5), .eq (.bool true), .eq (.bool true), .eq (.bool true), .eq (undef), .eq (undef), .eq (undef), .eq (.bool true), .eq (.bool false)] (fun wx => Below w2.heap.size w2 wx) (by kernel_rfl) (by kernel_rfl) rfl (by kernel_rfl) (below_drewN (Below.refl _ _) 1) (fun p _ _ hp => by simp at hp) ?_ ?_
                · intro i o listed a1 w2 hin ho st hl hdep
                  match i, ho with
                  | 0, ho => (injection ho with ho; subst ho; have ec : ∀ v, a1.eval (.const v) = v := fun _ => rfl; have ef : ∀ f, a1.eval (.func f) = .func (.func f) #[] #[] := fun _ => rfl; have e0 : a1.eval (.tmp 12) = ptr pZ 0 := st.old hl 12 (by kernel_rfl); exact AnyOrder.step_value rfl (AnyOrder.wanted_none rfl) (z.V) (run_load_k e0 (HZ.out.step st.inv)) st.inv (Below.refl _ _) rfl)
                  | 1, ho => (injection ho with ho; subst ho; have ec : ∀ v, a1.eval (.const v) = v := fun _ => rfl; have ef : ∀ f, a1.eval (.func f) = .func (.func f) #[] #[] := fun _ => rfl; have e0 : a1.eval (.tmp 148) = z.V := st.done 0 148 (hdep ⟨0, .data⟩ (by simp) rfl) rfl; exact AnyOrder.step_call rfl (AnyOrder.wanted_none rfl) 15 #[z.V] (by generalize a1.eval = ρ at ec ef e0 ⊢; simp [execOp, ec, ef, e0, go_sem]) ((CL.out _).mono (fun e w3 h => by obtain ⟨rfl, hb⟩ := h; exact ⟨_, rfl, st.inv.trans (hb.mono st.inv.size), hb, rfl⟩)))
                  | 2, ho => (injection ho with ho; subst ho; have ec : ∀ v, a1.eval (.const v) = v := fun _ => rfl; have ef : ∀ f, a1.eval (.func f) = .func (.func f) #[] #[] := fun _ => rfl; have e0 : a1.eval (.tmp 12) = ptr pZ 0 := st.old hl 12 (by kernel_rfl); exact AnyOrder.step_value rfl (AnyOrder.wanted_none rfl) (ptr pZ 5) (by generalize a1.eval = ρ at ec ef e0 ⊢; simp [execOp, ec, ef, e0, IntWalk.i64_left, go_sem]) st.inv (Below.refl _ _) rfl)
                  | 3, ho => (injection ho with ho; subst ho; have ec : ∀ v, a1.eval (.const v) = v := fun _ => rfl; have ef : ∀ f, a1.eval (.func f) = .func (.func f) #[] #[] := fun _ => rfl; have e0 : a1.eval (.tmp 150) = ptr pZ 5 := st.done 2 150 (hdep ⟨2, .data⟩ (by simp) rfl) rfl; exact AnyOrder.step_value rfl (AnyOrder.wanted_none rfl) (.int .i64 5) (by generalize a1.eval = ρ at ec ef e0 ⊢; simp [execOp, ec, ef, e0, IntWalk.i64_left, (show _ = some (Value.int IntKind.i64 5) from ((HZ.out.step st.inv).get5.trans (by rw [HS5.out]))), go_sem]) st.inv (Below.refl _ _) rfl)
                  | 4, ho => (injection ho with ho; subst ho; have ec : ∀ v, a1.eval (.const v) = v := fun _ => rfl; have ef : ∀ f, a1.eval (.func f) = .func (.func f) #[] #[] := fun _ => rfl; have e0 : a1.eval (.tmp 151) = .int .i64 5 := st.done 3 151 (hdep ⟨3, .data⟩ (by simp) rfl) rfl; exact AnyOrder.step_value rfl (AnyOrder.wanted_none rfl) (.bool false) (by generalize a1.eval = ρ at ec ef e0 ⊢; simp [execOp, ec, ef, e0, IntWalk.i64_left, go_sem]) st.inv (Below.refl _ _) rfl)
                  | 5, ho => (injection ho with ho; subst ho; have ec : ∀ v, a1.eval (.const v) = v := fun _ => rfl; have ef : ∀ f, a1.eval (.func f) = .func (.func f) #[] #[] := fun _ => rfl; have e0 : a1.eval (.tmp 152) = .bool false := st.done 4 152 (hdep ⟨4, .data⟩ (by simp) rfl) rfl; exact AnyOrder.step_value rfl (AnyOrder.wanted_none rfl) (.bool false) (AnyOrder.run_move e0) st.inv (Below.refl _ _) rfl)
                  | 6, ho => (injection ho with ho; subst ho; have ec : ∀ v, a1.eval (.const v) = v := fun _ => rfl; have ef : ∀ f, a1.eval (.func f) = .func (.func f) #[] #[] := fun _ => rfl; have e0 : a1.eval (.tmp 12) = ptr pZ 0 := st.old hl 12 (by kernel_rfl); have eg : a1.eval (.tmp 153) = .bool false := st.done 5 153 (hdep ⟨5, .guard⟩ (by simp) rfl) rfl; exact AnyOrder.step_value rfl ((AnyOrder.wanted_of rfl rfl eg).trans rfl) (ptr pZ 5) (by generalize a1.eval = ρ at ec ef e0 ⊢; simp [execOp, ec, ef, e0, IntWalk.i64_left, go_sem]) st.inv (Below.refl _ _) rfl)
                  | 7, ho => (injection ho with ho; subst ho; have ec : ∀ v, a1.eval (.const v) = v := fun _ => rfl; have ef : ∀ f, a1.eval (.func f) = .func (.func f) #[] #[] := fun _ => rfl; have e0 : a1.eval (.tmp 154) = ptr pZ 5 := st.done 6 154 (hdep ⟨6, .data⟩ (by simp) rfl) rfl; have eg : a1.eval (.tmp 153) = .bool false := st.done 5 153 (hdep ⟨5, .guard⟩ (by simp) rfl) rfl; exact AnyOrder.step_value rfl ((AnyOrder.wanted_of rfl rfl eg).trans rfl) (.int .i64 5) (by generalize a1.eval = ρ at ec ef e0 ⊢; simp [execOp, ec, ef, e0, IntWalk.i64_left, (show _ = some (Value.int IntKind.i64 5) from ((HZ.out.step st.inv).get5.trans (by rw [HS5.out]))), go_sem]) st.inv (Below.refl _ _) rfl)
                  | 8, ho => (injection ho with ho; subst ho; have ec : ∀ v, a1.eval (.const v) = v := fun _ => rfl; have ef : ∀ f, a1.eval (.func f) = .func (.func f) #[] #[] := fun _ => rfl; have e0 : a1.eval (.tmp 155) = .int .i64 5 := st.done 7 155 (hdep ⟨7, .data⟩ (by simp) rfl) rfl; have eg : a1.eval (.tmp 153) = .bool false := st.done 5 153 (hdep ⟨5, .guard⟩ (by simp) rfl) rfl; exact AnyOrder.step_value rfl ((AnyOrder.wanted_of rfl rfl eg).trans rfl) (.bool true) (by generalize a1.eval = ρ at ec ef e0 ⊢; simp [execOp, ec, ef, e0, IntWalk.i64_left, go_sem]) st.inv (Below.refl _ _) rfl)
                  | 9, ho => (injection ho with ho; subst ho; have ec : ∀ v, a1.eval (.const v) = v := fun _ => rfl; have ef : ∀ f, a1.eval (.func f) = .func (.func f) #[] #[] := fun _ => rfl; have e0 : a1.eval (.tmp 153) = .bool false := st.done 5 153 (hdep ⟨5, .data⟩ (by simp) rfl) rfl; have e1 : a1.eval (.tmp 156) = .bool true := st.done 8 156 (hdep ⟨8, .data⟩ (by simp) rfl) rfl; exact AnyOrder.step_value rfl (AnyOrder.wanted_none rfl) (.bool true) (by generalize a1.eval = ρ at ec ef e0 e1 ⊢; simp [execOp, ec, ef, e0, e1, IntWalk.i64_left, go_sem]) st.inv (Below.refl _ _) rfl)
                  | 10, ho => (injection ho with ho; subst ho; have ec : ∀ v, a1.eval (.const v) = v := fun _ => rfl; have ef : ∀ f, a1.eval (.func f) = .func (.func f) #[] #[] := fun _ => rfl; have e0 : a1.eval (.tmp 157) = .bool true := st.done 9 157 (hdep ⟨9, .data⟩ (by simp) rfl) rfl; exact AnyOrder.step_value rfl (AnyOrder.wanted_none rfl) (.bool true) (AnyOrder.run_move e0) st.inv (Below.refl _ _) rfl)
                  | 11, ho => (injection ho with ho; subst ho; have ec : ∀ v, a1.eval (.const v) = v := fun _ => rfl; have ef : ∀ f, a1.eval (.func f) = .func (.func f) #[] #[] := fun _ => rfl; have eg : a1.eval (.tmp 158) = .bool true := st.done 10 158 (hdep ⟨10, .guard⟩ (by simp) rfl) rfl; exact AnyOrder.step_skip rfl ((AnyOrder.wanted_of rfl rfl eg).trans rfl) st.inv rfl)
                  | 12, ho => (injection ho with ho; subst ho; have ec : ∀ v, a1.eval (.const v) = v := fun _ => rfl; have ef : ∀ f, a1.eval (.func f) = .func (.func f) #[] #[] := fun _ => rfl; have eg : a1.eval (.tmp 158) = .bool true := st.done 10 158 (hdep ⟨10, .guard⟩ (by simp) rfl) rfl; exact AnyOrder.step_skip rfl ((AnyOrder.wanted_of rfl rfl eg).trans rfl) st.inv rfl)
                  | 13, ho => (injection ho with ho; subst ho; have ec : ∀ v, a1.eval (.const v) = v := fun _ => rfl; have ef : ∀ f, a1.eval (.func f) = .func (.func f) #[] #[] := fun _ => rfl; have eg : a1.eval (.tmp 158) = .bool true := st.done 10 158 (hdep ⟨10, .guard⟩ (by simp) rfl) rfl; exact AnyOrder.step_skip rfl ((AnyOrder.wanted_of rfl rfl eg).trans rfl) st.inv rfl)
                  | 14, ho => (injection ho with ho; subst ho; have ec : ∀ v, a1.eval (.const v) = v := fun _ => rfl; have ef : ∀ f, a1.eval (.func f) = .func (.func f) #[] #[] := fun _ => rfl; have e0 : a1.eval (.tmp 158) = .bool true := st.done 10 158 (hdep ⟨10, .data⟩ (by simp) rfl) rfl; have e1 : a1.eval (.tmp 161) = undef := st.done 13 161 (hdep ⟨13, .data⟩ (by simp) rfl) rfl; exact AnyOrder.step_value rfl (AnyOrder.wanted_none rfl) (.bool true) (by generalize a1.eval = ρ at ec ef e0 e1 ⊢; simp [execOp, ec, ef, e0, e1, IntWalk.i64_left, go_sem]) st.inv (Below.refl _ _) rfl)
                  | 15, ho => (injection ho with ho; subst ho; have ec : ∀ v, a1.eval (.const v) = v := fun _ => rfl; have ef : ∀ f, a1.eval (.func f) = .func (.func f) #[] #[] := fun _ => rfl; have e0 : a1.eval (.tmp 149) = .bool false := st.done 1 149 (hdep ⟨1, .data⟩ (by simp) rfl) rfl; have e1 : a1.eval (.tmp 162) = .bool true := st.done 14 162 (hdep ⟨14, .data⟩ (by simp) rfl) rfl; exact AnyOrder.step_value rfl (AnyOrder.wanted_none rfl) (.bool false) (by generalize a1.eval = ρ at ec ef e0 e1 ⊢; simp [execOp, ec, ef, e0, e1, IntWalk.i64_left, go_sem]) st.inv (Below.refl _ _) rfl)
                  | n + 16, ho => exact absurd hin (by omega)
                · intro w3 hJ
                  simp only [AnyOrder.finK, List.take_succ_cons, List.take_zero, List.drop_succ_cons, List.drop_zero, Act.put, List.setIfInBounds_toArray, List.set_cons_zero, List.set_cons_succ]
                  have HS := Lib.hid (HS.out.step (below_drop hJ)); clear HZ
                  have z5 := HS.out.z_.get5; have z4 := HS.out.z_.get4; have z1 := HS.out.z_.get1; have c1 := HS.out.g.cat.get (k := 1) (by omega)
                  rw [HS5.out] at z5
                  have HZ := Lib.hid HS.out.z_
                  generalize c.get 1 = cs at *
                  go_upto_region 38 with fail
                  clear z5 z4 z1 c1
                  go_wp2_with ((with_reducible apply wpList_load_kat (h := HZ.out)); exact rfl; exact rfl; exact rfl)
                  refine (CL.out _).mono ?_
                  rintro e w4 ⟨rfl, hb⟩
                  have HS := Lib.hid (HS.out.step hb); clear hb HZ
                  have HZ := Lib.hid HS.out.z_; have HQ := Lib.hid HS.out.g.y_
                  go_wp2_with (first | ((with_reducible apply wpList_load_kat (h := HZ.out)); exact rfl; exact rfl; exact rfl) | ((with_reducible apply wpList_store_kat (c := z) (hq := HQ.out)); exact rfl; exact rfl; exact rfl; exact rfl))
                  go_roundg (60 - (i + 1))
                  case measure => have := HGH.out; omega
                  case rel => exact ⟨i + 1, z, by omega, rfl, by go_num, by rw [HL.out]; rfl, HS.out.g.setY z, HI2.out⟩
            · as_aux_lemma =>
                have HS5 := Lib.hid hs; clear hs HST
                have hl : livesK z = false := by simp [livesK, HS5.out]
                rw [hl] at CL
                have HL := Lib.hid hl; clear hl
                refine AnyOrder.region_kinds2 16 [.eq (z.V), .eq (.bool false), .eq (ptr pZ 5), .eq (.int .i64 6), .eq (.bool false), .eq (.bool false), .eq (ptr pZ 5), .eq (.int .i64 6), .eq (.bool false), .eq (.bool false), .eq (.bool false), .eq (ptr pZ 5), .eq (.int .i64 6), .eq (.bool true), .eq (.bool true), .eq (.bool false)] (fun wx => Below w2.heap.size w2 wx) (by kernel_rfl) (by kernel_rfl) rfl (by kernel_rfl) (below_drewN (Below.refl _ _) 1) (fun p _ _ hp => by simp at hp) ?_ ?_
                · intro i o listed a1 w2 hin ho st hl hdep
                  match i, ho with
                  | 0, ho => (injection ho with ho; subst ho; have ec : ∀ v, a1.eval (.const v) = v := fun _ => rfl; have ef : ∀ f, a1.eval (.func f) = .func (.func f) #[] #[] := fun _ => rfl; have e0 : a1.eval (.tmp 12) = ptr pZ 0 := st.old hl 12 (by kernel_rfl); exact AnyOrder.step_value rfl (AnyOrder.wanted_none rfl) (z.V) (run_load_k e0 (HZ.out.step st.inv)) st.inv (Below.refl _ _) rfl)
                  | 1, ho => (injection ho with ho; subst ho; have ec : ∀ v, a1.eval (.const v) = v := fun _ => rfl; have ef : ∀ f, a1.eval (.func f) = .func (.func f) #[] #[] := fun _ => rfl; have e0 : a1.eval (.tmp 148) = z.V := st.done 0 148 (hdep ⟨0, .data⟩ (by simp) rfl) rfl; exact AnyOrder.step_call rfl (AnyOrder.wanted_none rfl) 15 #[z.V] (by generalize a1.eval = ρ at ec ef e0 ⊢; simp [execOp, ec, ef, e0, go_sem]) ((CL.out _).mono (fun e w3 h => by obtain ⟨rfl, hb⟩ := h; exact ⟨_, rfl, st.inv.trans (hb.mono st.inv.size), hb, rfl⟩)))
                  | 2, ho => (injection ho with ho; subst ho; have ec : ∀ v, a1.eval (.const v) = v := fun _ => rfl; have ef : ∀ f, a1.eval (.func f) = .func (.func f) #[] #[] := fun _ => rfl; have e0 : a1.eval (.tmp 12) = ptr pZ 0 := st.old hl 12 (by kernel_rfl); exact AnyOrder.step_value rfl (AnyOrder.wanted_none rfl) (ptr pZ 5) (by generalize a1.eval = ρ at ec ef e0 ⊢; simp [execOp, ec, ef, e0, IntWalk.i64_left, go_sem]) st.inv (Below.refl _ _) rfl)
                  | 3, ho => (injection ho with ho; subst ho; have ec : ∀ v, a1.eval (.const v) = v := fun _ => rfl; have ef : ∀ f, a1.eval (.func f) = .func (.func f) #[] #[] := fun _ => rfl; have e0 : a1.eval (.tmp 150) = ptr pZ 5 := st.done 2 150 (hdep ⟨2, .data⟩ (by simp) rfl) rfl; exact AnyOrder.step_value rfl (AnyOrder.wanted_none rfl) (.int .i64 6) (by generalize a1.eval = ρ at ec ef e0 ⊢; simp [execOp, ec, ef, e0, IntWalk.i64_left, (show _ = some (Value.int IntKind.i64 6) from ((HZ.out.step st.inv).get5.trans (by rw [HS5.out]))), go_sem]) st.inv (Below.refl _ _) rfl)
                  | 4, ho => (injection ho with ho; subst ho; have ec : ∀ v, a1.eval (.const v) = v := fun _ => rfl; have ef : ∀ f, a1.eval (.func f) = .func (.func f) #[] #[] := fun _ => rfl; have e0 : a1.eval (.tmp 151) = .int .i64 6 := st.done 3 151 (hdep ⟨3, .data⟩ (by simp) rfl) rfl; exact AnyOrder.step_value rfl (AnyOrder.wanted_none rfl) (.bool false) (by generalize a1.eval = ρ at ec ef e0 ⊢; simp [execOp, ec, ef, e0, IntWalk.i64_left, go_sem]) st.inv (Below.refl _ _) rfl)
                  | 5, ho => (injection ho with ho; subst ho; have ec : ∀ v, a1.eval (.const v) = v := fun _ => rfl; have ef : ∀ f, a1.eval (.func f) = .func (.func f) #[] #[] := fun _ => rfl; have e0 : a1.eval (.tmp 152) = .bool false := st.done 4 152 (hdep ⟨4, .data⟩ (by simp) rfl) rfl; exact AnyOrder.step_value rfl (AnyOrder.wanted_none rfl) (.bool false) (AnyOrder.run_move e0) st.inv (Below.refl _ _) rfl)
                  | 6, ho => (injection ho with ho; subst ho; have ec : ∀ v, a1.eval (.const v) = v := fun _ => rfl; have ef : ∀ f, a1.eval (.func f) = .func (.func f) #[] #[] := fun _ => rfl; have e0 : a1.eval (.tmp 12) = ptr pZ 0 := st.old hl 12 (by kernel_rfl); have eg : a1.eval (.tmp 153) = .bool false := st.done 5 153 (hdep ⟨5, .guard⟩ (by simp) rfl) rfl; exact AnyOrder.step_value rfl ((AnyOrder.wanted_of rfl rfl eg).trans rfl) (ptr pZ 5) (by generalize a1.eval = ρ at ec ef e0 ⊢; simp [execOp, ec, ef, e0, IntWalk.i64_left, go_sem]) st.inv (Below.refl _ _) rfl)
                  | 7, ho => (injection ho with ho; subst ho; have ec : ∀ v, a1.eval (.const v) = v := fun _ => rfl; have ef : ∀ f, a1.eval (.func f) = .func (.func f) #[] #[] := fun _ => rfl; have e0 : a1.eval (.tmp 154) = ptr pZ 5 := st.done 6 154 (hdep ⟨6, .data⟩ (by simp) rfl) rfl; have eg : a1.eval (.tmp 153) = .bool false := st.done 5 153 (hdep ⟨5, .guard⟩ (by simp) rfl) rfl; exact AnyOrder.step_value rfl ((AnyOrder.wanted_of rfl rfl eg).trans rfl) (.int .i64 6) (by generalize a1.eval = ρ at ec ef e0 ⊢; simp [execOp, ec, ef, e0, IntWalk.i64_left, (show _ = some (Value.int IntKind.i64 6) from ((HZ.out.step st.inv).get5.trans (by rw [HS5.out]))), go_sem]) st.inv (Below.refl _ _) rfl)
                  | 8, ho => (injection ho with ho; subst ho; have ec : ∀ v, a1.eval (.const v) = v := fun _ => rfl; have ef : ∀ f, a1.eval (.func f) = .func (.func f) #[] #[] := fun _ => rfl; have e0 : a1.eval (.tmp 155) = .int .i64 6 := st.done 7 155 (hdep ⟨7, .data⟩ (by simp) rfl) rfl; have eg : a1.eval (.tmp 153) = .bool false := st.done 5 153 (hdep ⟨5, .guard⟩ (by simp) rfl) rfl; exact AnyOrder.step_value rfl ((AnyOrder.wanted_of rfl rfl eg).trans rfl) (.bool false) (by generalize a1.eval = ρ at ec ef e0 ⊢; simp [execOp, ec, ef, e0, IntWalk.i64_left, go_sem]) st.inv (Below.refl _ _) rfl)
                  | 9, ho => (injection ho with ho; subst ho; have ec : ∀ v, a1.eval (.const v) = v := fun _ => rfl; have ef : ∀ f, a1.eval (.func f) = .func (.func f) #[] #[] := fun _ => rfl; have e0 : a1.eval (.tmp 153) = .bool false := st.done 5 153 (hdep ⟨5, .data⟩ (by simp) rfl) rfl; have e1 : a1.eval (.tmp 156) = .bool false := st.done 8 156 (hdep ⟨8, .data⟩ (by simp) rfl) rfl; exact AnyOrder.step_value rfl (AnyOrder.wanted_none rfl) (.bool false) (by generalize a1.eval = ρ at ec ef e0 e1 ⊢; simp [execOp, ec, ef, e0, e1, IntWalk.i64_left, go_sem]) st.inv (Below.refl _ _) rfl)
                  | 10, ho => (injection ho with ho; subst ho; have ec : ∀ v, a1.eval (.const v) = v := fun _ => rfl; have ef : ∀ f, a1.eval (.func f) = .func (.func f) #[] #[] := fun _ => rfl; have e0 : a1.eval (.tmp 157) = .bool false := st.done 9 157 (hdep ⟨9, .data⟩ (by simp) rfl) rfl; exact AnyOrder.step_value rfl (AnyOrder.wanted_none rfl) (.bool false) (AnyOrder.run_move e0) st.inv (Below.refl _ _) rfl)
                  | 11, ho => (injection ho with ho; subst ho; have ec : ∀ v, a1.eval (.const v) = v := fun _ => rfl; have ef : ∀ f, a1.eval (.func f) = .func (.func f) #[] #[] := fun _ => rfl; have e0 : a1.eval (.tmp 12) = ptr pZ 0 := st.old hl 12 (by kernel_rfl); have eg : a1.eval (.tmp 158) = .bool false := st.done 10 158 (hdep ⟨10, .guard⟩ (by simp) rfl) rfl; exact AnyOrder.step_value rfl ((AnyOrder.wanted_of rfl rfl eg).trans rfl) (ptr pZ 5) (by generalize a1.eval = ρ at ec ef e0 ⊢; simp [execOp, ec, ef, e0, IntWalk.i64_left, go_sem]) st.inv (Below.refl _ _) rfl)
                  | 12, ho => (injection ho with ho; subst ho; have ec : ∀ v, a1.eval (.const v) = v := fun _ => rfl; have ef : ∀ f, a1.eval (.func f) = .func (.func f) #[] #[] := fun _ => rfl; have e0 : a1.eval (.tmp 159) = ptr pZ 5 := st.done 11 159 (hdep ⟨11, .data⟩ (by simp) rfl) rfl; have eg : a1.eval (.tmp 158) = .bool false := st.done 10 158 (hdep ⟨10, .guard⟩ (by simp) rfl) rfl; exact AnyOrder.step_value rfl ((AnyOrder.wanted_of rfl rfl eg).trans rfl) (.int .i64 6) (by generalize a1.eval = ρ at ec ef e0 ⊢; simp [execOp, ec, ef, e0, IntWalk.i64_left, (show _ = some (Value.int IntKind.i64 6) from ((HZ.out.step st.inv).get5.trans (by rw [HS5.out]))), go_sem]) st.inv (Below.refl _ _) rfl)
                  | 13, ho => (injection ho with ho; subst ho; have ec : ∀ v, a1.eval (.const v) = v := fun _ => rfl; have ef : ∀ f, a1.eval (.func f) = .func (.func f) #[] #[] := fun _ => rfl; have e0 : a1.eval (.tmp 160) = .int .i64 6 := st.done 12 160 (hdep ⟨12, .data⟩ (by simp) rfl) rfl; have eg : a1.eval (.tmp 158) = .bool false := st.done 10 158 (hdep ⟨10, .guard⟩ (by simp) rfl) rfl; exact AnyOrder.step_value rfl ((AnyOrder.wanted_of rfl rfl eg).trans rfl) (.bool true) (by generalize a1.eval = ρ at ec ef e0 ⊢; simp [execOp, ec, ef, e0, IntWalk.i64_left, go_sem]) st.inv (Below.refl _ _) rfl)
                  | 14, ho => (injection ho with ho; subst ho; have ec : ∀ v, a1.eval (.const v) = v := fun _ => rfl; have ef : ∀ f, a1.eval (.func f) = .func (.func f) #[] #[] := fun _ => rfl; have e0 : a1.eval (.tmp 158) = .bool false := st.done 10 158 (hdep ⟨10, .data⟩ (by simp) rfl) rfl; have e1 : a1.eval (.tmp 161) = .bool true := st.done 13 161 (hdep ⟨13, .data⟩ (by simp) rfl) rfl; exact AnyOrder.step_value rfl (AnyOrder.wanted_none rfl) (.bool true) (by generalize a1.eval = ρ at ec ef e0 e1 ⊢; simp [execOp, ec, ef, e0, e1, IntWalk.i64_left, go_sem]) st.inv (Below.refl _ _) rfl)
                  | 15, ho => (injection ho with ho; subst ho; have ec : ∀ v, a1.eval (.const v) = v := fun _ => rfl; have ef : ∀ f, a1.eval (.func f) = .func (.func f) #[] #[] := fun _ => rfl; have e0 : a1.eval (.tmp 149) = .bool false := st.done 1 149 (hdep ⟨1, .data⟩ (by simp) rfl) rfl; have e1 : a1.eval (.tmp 162) = .bool true := st.done 14 162 (hdep ⟨14, .data⟩ (by simp) rfl) rfl; exact AnyOrder.step_value rfl (AnyOrder.wanted_none rfl) (.bool false) (by generalize a1.eval = ρ at ec ef e0 e1 ⊢; simp [execOp, ec, ef, e0, e1, IntWalk.i64_left, go_sem]) st.inv (Below.refl _ _) rfl)
                  | n + 16, ho => exact absurd hin (by omega)
                · intro w3 hJ
                  simp only [AnyOrder.finK, List.take_succ_cons, List.take_zero, List.drop_succ_cons, List.drop_zero, Act.put, List.setIfInBounds_toArray, List.set_cons_zero, List.set_cons_succ]
                  have HS := Lib.hid (HS.out.step (below_drop hJ)); clear HZ
                  have z5 := HS.out.z_.get5; have z4 := HS.out.z_.get4; have z1 := HS.out.z_.get1; have c1 := HS.out.g.cat.get (k := 1) (by omega)
                  rw [HS5.out] at z5
                  have HZ := Lib.hid HS.out.z_
                  generalize c.get 1 = cs at *
                  go_upto_region 38 with fail
                  clear z5 z4 z1 c1
                  go_wp2_with ((with_reducible apply wpList_load_kat (h := HZ.out)); exact rfl; exact rfl; exact rfl)
                  refine (CL.out _).mono ?_
                  rintro e w4 ⟨rfl, hb⟩
                  have HS := Lib.hid (HS.out.step hb); clear hb HZ
                  have HZ := Lib.hid HS.out.z_; have HQ := Lib.hid HS.out.g.y_
                  go_wp2_with (first | ((with_reducible apply wpList_load_kat (h := HZ.out)); exact rfl; exact rfl; exact rfl) | ((with_reducible apply wpList_store_kat (c := z) (hq := HQ.out)); exact rfl; exact rfl; exact rfl; exact rfl))
                  go_roundg (60 - (i + 1))
                  case measure => have := HGH.out; omega
                  case rel => exact ⟨i + 1, z, by omega, rfl, by go_num, by rw [HL.out]; rfl, HS.out.g.setY z, HI2.out⟩
      · have e2 : decide ((i : Int) < 60) = false := (by simp; omega); have e2n : decide (i < 60) = false := (by simpa using h2)
        clear HZ0 hz
        generalize (!livesK y) = en
        generalize zs.length = len at *
        go_wp2_with fail
        go_ret
        exact ⟨rfl, HS.out.bel⟩
    · have e1 : decide ((i : Int) < (zs.length : Int)) = false := (by simp; omega); have e1n : decide (i < zs.length) = false := (by simpa using h1)
      clear HZ0 hz
      generalize (!livesK y) = en
      generalize zs.length = len at *
      go_wp2_with fail
      go_ret
      exact ⟨rfl, HS.out.bel⟩
end Go.Proofs.Ytdchokeihnoepaa
