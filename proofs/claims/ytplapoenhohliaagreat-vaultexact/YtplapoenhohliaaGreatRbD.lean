import Derived.Test.YtplapoenhohliaaGreatRbC
namespace Go.Proofs.YtplapoenhohliaaGreat
open Go.RowKit Go.Lib
open Sh.Plain (KV get put del Rise)
set_option linter.unusedVariables false
set_option linter.unusedSimpArgs false
set_option maxRecDepth 100000 in
set_option maxHeartbeats 8000000 in
theorem nextU_any {u : U} {sl sd : Sl} {x : K} {w : World} (ha : UAt w u sl sd) (hix : 0 ≤ u.ix ∧ u.ix ≤ 100000) (hl : u.live.length ≤ 1000) (hd : u.done.length ≤ 1000) (hc : 1 ≤ u.c.get 3) : Calls Tryz.prog 58 #[u.V sl sd, x.V] w (U3 w (nextU u x)) := by
 have HN := Lib.hid (TL.new w u sl sd x _ rfl)
 have HROW := Lib.hid (ha.step HN.out.bel)
 have dt : decide (u.ix ≥ 1073741824) = false := decide_eq_false (by omega)
 have dt2 : decide (1073741824 ≤ u.ix) = false := decide_eq_false (by omega)
 have hw : IntKind.i64.wrap (u.ix + 1) = u.ix + 1 := IntWalk.i64_in _ (by omega)
 have hw2 : wrap64 (u.ix + 1) = u.ix + 1 := IntWalk.wrap64_in _ (by omega)
 have HDE := Lib.hid hd; have HC3 := Lib.hid hc
 obtain ⟨n, hn⟩ : ∃ n, u.live.length = n := ⟨_, rfl⟩
 rw [hn] at hl
 have HNN := Lib.hid hn; have HLE := Lib.hid hl; have HLN := Lib.hid hl
 clear ha hix hl hd hc hn
 go_enter Tryz.func58, Tryz.ntmps58
 go_upto_region 1 with fail
 obtain ⟨W, hW⟩ : ∃ W, (((w.alloc (.cells (u.cells sl sd) 65)).alloc (.cells x.cells 46)).alloc (.cells Z26 65)).alloc (.cells Z11 48) = W := ⟨_, rfl⟩
 rw [hW] at HN HROW ⊢; clear hW
 generalize w.heap.size + 1 + 1 + 1 = r at HN ⊢
 generalize w.heap.size + 1 + 1 = q at HN ⊢
 generalize w.heap.size + 1 = s at HN ⊢
 obtain ⟨g, hg⟩ : ∃ g, w.heap.size = g := ⟨_, rfl⟩
 rw [hg] at HN ⊢; clear hg
 have k19 := UkAt.k19 HN.out.bk
 go_upto_region 3 with fail
 clear k19 dt dt2
 go_upto_region 4 with fail
 have HO := Lib.hid (OL.new W)
 obtain ⟨W1, hW1⟩ : ∃ W1, W.alloc (.cells #[] 46) = W1 := ⟨_, rfl⟩
 rw [hW1] at HO ⊢; clear hW1
 generalize Value.slice (some ⟨W.heap.size, 0, none⟩) 0 0 = lv0 at HO ⊢
 go_wp2_with fail
 go_loopg [9, 7, 8] n (fun gh s9 s7 s8 wx => ∃ (j : Nat) (lv : Value) (was : Bool), j ≤ n ∧ gh = n - j ∧ s9 = .int .i64 (j : Int) ∧ lv = s7 ∧ s8 = .bool was ∧ was = (u.live.take j).any (fun y => y.id == x.id) ∧ OL W wx lv ((u.live.take j).flatMap (stepL x)))
 case atStart => exact ⟨0, _, false, Nat.zero_le _, rfl, rfl, rfl, rfl, rfl, HO.out⟩
 case round =>
  obtain ⟨j, lv, was, hj, hg, rfl, rfl, rfl, hwas, hol⟩ := hrel
  have HG := Lib.hid hg; have HOL := Lib.hid hol; have HWAS := Lib.hid hwas; clear hg hol hwas HO
  have HB := Lib.hid (HN.out.step HOL.out.1)
  have kl := UkAt.k20 HB.out.bk
  rw [HNN.out] at kl
  by_cases hlt : j < n
  ·have hj2 : j < u.live.length := by rw [HNN.out]; exact hlt
   have hrow := (HROW.out.step HOL.out.1).1.1
   obtain ⟨b, off, hs, hb, hr⟩ := rd_cell hrow hj2
   have hpx : u.live[j]? = some u.live[j] := List.getElem?_eq_getElem hj2
   generalize u.live[j] = y at *
   obtain ⟨sl1, sl2⟩ := sl
   obtain rfl : sl1 = some ⟨b, off, none⟩ := hs
   have HPX := Lib.hid hpx; have HR := Lib.hid hr; have HLB := Lib.hid hb
   have KID := Lib.hid (kid_at hr)
   have HLG := Lib.hid (At.lt HB.out.bk); have HS := Lib.hid HB.out.k
   have kl2 : Hid (wr.cell? ⟨g, 20, none⟩ = some (.slice (some ⟨b, off, none⟩) n sl2)) := Lib.hid kl
   have HTK : Hid (u.live.take (j + 1) = u.live.take j ++ [y]) := Lib.hid (by rw [List.take_add_one, hpx]; rfl)
   have hxl : ((u.live.take j).flatMap (stepL x)).length ≤ 1000 := Nat.le_trans (liveN_take u x j) (by rw [HNN.out]; exact HLE.out)
   have b3 : (j : Int) < (n : Int) := by omega
   have b4 : (0 : Int) ≤ (j : Int) := by omega
   clear hr hpx hb hrow
   go_upto_region 8 with fail
   clear kl
   by_cases hid : y.id = x.id
   ·have NID : Hid ((y.id != x.id) = false) := Lib.hid (by simpa using hid)
    have HID := Lib.hid hid; clear hid
    refine AnyOrder.region_kinds2 9 [.eq (ptr g 20), .eq (.slice (some ⟨b, off, none⟩) n sl2), .eq (.int .i64 (j : Int)), .eq (ptr b (off + j * 8)), .eq (ptr b (off + j * 8)), .eq (.int .i64 y.id), .eq (ptr s 0), .eq (.int .i64 x.id), .eq (.bool false)] (fun wx => Below wr.heap.size wr wx) (by kernel_rfl) (by kernel_rfl) rfl (by kernel_rfl) (below_drewN (Below.refl _ _) 1) (fun p _ _ hp => by simp at hp) ?_ ?_
    ·intro i o listed a1 w2 hin ho st hl hdep
     match i, ho with
     | 0, ho => (injection ho with ho; subst ho; have ec := AnyOrder.evc a1; have ef := AnyOrder.evf a1; have e0 : a1.eval (.tmp 2) = ptr g 0 := st.old hl 2 (by kernel_rfl); exact AnyOrder.sv rfl rfl (ptr g 20) (by generalize a1.eval = ρ at ec ef e0 ⊢; simp [execOp, ec, ef, e0, IntWalk.i64_left, go_sem]) st.inv (Below.refl _ _) rfl)
     | 1, ho => (injection ho with ho; subst ho; have ec := AnyOrder.evc a1; have ef := AnyOrder.evf a1; have e0 : a1.eval (.tmp 24) = ptr g 20 := st.done 0 24 (hdep ⟨0, .data⟩ (by simp) rfl) rfl; exact AnyOrder.sv rfl rfl (.slice (some ⟨b, off, none⟩) n sl2) (by have hk : w2.cell? ⟨g, 20, none⟩ = some (.slice (some ⟨b, off, none⟩) n sl2) := (st.inv.cell (p := ⟨g, 20, none⟩) HLG.out).trans kl2.out; generalize a1.eval = ρ at ec ef e0 ⊢; simp [execOp, e0, go_sem, hk]) st.inv (Below.refl _ _) rfl)
     | 2, ho => (injection ho with ho; subst ho; have e0 : a1.eval (.tmp 9) = .int .i64 (j : Int) := st.old hl 9 (by kernel_rfl); exact AnyOrder.sv rfl rfl (.int .i64 (j : Int)) (AnyOrder.run_move e0) st.inv (Below.refl _ _) rfl)
     | 3, ho => (injection ho with ho; subst ho; have ec := AnyOrder.evc a1; have ef := AnyOrder.evf a1; have e0 : a1.eval (.tmp 25) = .slice (some ⟨b, off, none⟩) n sl2 := st.done 1 25 (hdep ⟨1, .data⟩ (by simp) rfl) rfl; have e1 : a1.eval (.tmp 26) = .int .i64 (j : Int) := st.done 2 26 (hdep ⟨2, .data⟩ (by simp) rfl) rfl; exact AnyOrder.sv rfl rfl (ptr b (off + j * 8)) (by generalize a1.eval = ρ at ec ef e0 e1 ⊢; simp [execOp, e0, e1, go_sem, b3, b4]) st.inv (Below.refl _ _) rfl)
     | 4, ho => (injection ho with ho; subst ho; have ec := AnyOrder.evc a1; have ef := AnyOrder.evf a1; have e0 : a1.eval (.tmp 27) = ptr b (off + j * 8) := st.done 3 27 (hdep ⟨3, .data⟩ (by simp) rfl) rfl; exact AnyOrder.sv rfl rfl (ptr b (off + j * 8)) (by generalize a1.eval = ρ at ec ef e0 ⊢; simp [execOp, e0, go_sem]) st.inv (Below.refl _ _) rfl)
     | 5, ho => (injection ho with ho; subst ho; have ec := AnyOrder.evc a1; have ef := AnyOrder.evf a1; have e0 : a1.eval (.tmp 28) = ptr b (off + j * 8) := st.done 4 28 (hdep ⟨4, .data⟩ (by simp) rfl) rfl; exact AnyOrder.sv rfl rfl (.int .i64 y.id) (by have hk := (st.inv.cell (p := ⟨b, off + j * 8, none⟩) HLB.out).trans KID.out; generalize a1.eval = ρ at ec ef e0 ⊢; simp [execOp, e0, go_sem, hk]) st.inv (Below.refl _ _) rfl)
     | 6, ho => (injection ho with ho; subst ho; have ec := AnyOrder.evc a1; have ef := AnyOrder.evf a1; have e0 : a1.eval (.tmp 3) = ptr s 0 := st.old hl 3 (by kernel_rfl); exact AnyOrder.sv rfl rfl (ptr s 0) (by generalize a1.eval = ρ at ec ef e0 ⊢; simp [execOp, ec, ef, e0, IntWalk.i64_left, go_sem]) st.inv (Below.refl _ _) rfl)
     | 7, ho => (injection ho with ho; subst ho; have ec := AnyOrder.evc a1; have ef := AnyOrder.evf a1; have e0 : a1.eval (.tmp 30) = ptr s 0 := st.done 6 30 (hdep ⟨6, .data⟩ (by simp) rfl) rfl; exact AnyOrder.sv rfl rfl (.int .i64 x.id) (by have hk := KAt.get0 (At.step HS.out st.inv); generalize a1.eval = ρ at ec ef e0 ⊢; simp [execOp, e0, go_sem, hk]) st.inv (Below.refl _ _) rfl)
     | 8, ho => (injection ho with ho; subst ho; have ec := AnyOrder.evc a1; have ef := AnyOrder.evf a1; have e0 : a1.eval (.tmp 29) = .int .i64 y.id := st.done 5 29 (hdep ⟨5, .data⟩ (by simp) rfl) rfl; have e1 : a1.eval (.tmp 31) = .int .i64 x.id := st.done 7 31 (hdep ⟨7, .data⟩ (by simp) rfl) rfl; exact AnyOrder.sv rfl rfl (.bool false) (by generalize a1.eval = ρ at ec ef e0 e1 ⊢; simp [execOp, e0, e1, go_sem, NID.out]) st.inv (Below.refl _ _) rfl)
     | n + 9, ho => exact absurd hin (by omega)
    ·intro w2 hJ
     simp only [AnyOrder.finK, List.take_succ_cons, List.take_zero, List.drop_succ_cons, List.drop_zero, Act.put, List.setIfInBounds_toArray, List.set_cons_zero, List.set_cons_succ]
     go_upto_region 11 with fail
     have HOL2 := Lib.hid (HOL.out.step hJ); have HS2 := Lib.hid (At.step HS.out hJ)
     have k5 := KAt.get5 HS2.out
     by_cases h4 : x.st < 4
     ·have d4 : decide (x.st < 4) = true := by simpa using h4
      have HK := HS2
      have H4 := Lib.hid h4; clear h4
      obtain ⟨rv', w5, hr5, ho5⟩ := HOL2.out.push x (by omega) 63
      have HR5 := Lib.hid hr5; have HO5 := Lib.hid ho5; clear hr5 ho5
      go_wp2_with (first | ((with_reducible apply wpList_load_kat (h := HK.out)); exact rfl; exact rfl; exact rfl) | ((with_reducible apply wpList_slice1 (c := x)); exact rfl; exact rfl; exact rfl) | (at_builtin; (refine Lib.wpList_append_run _ rfl (.tmp 44) (.tmp 46) 63 63 rfl _ _ rfl rfl rv' w5 HR5.out ?_)))
      go_roundg (n - (j + 1))
      case measure => have := HG.out; omega
      case rel => exact ⟨j + 1, rv', true, by omega, rfl, (by have := HLE.out; have := HLN.out; rw [IntWalk.wrap64_in _ (by omega)]; rfl), rfl, rfl, (by rw [HTK.out, List.any_append]; simp [HID.out]), by rw [HTK.out, List.flatMap_append]; simpa [stepL, HID.out, H4.out] using HO5.out⟩
     ·have d4 : decide (x.st < 4) = false := by simpa using h4
      have H4 := Lib.hid h4; clear h4
      have HO5 := HOL2
      go_wp2_with fail
      go_roundg (n - (j + 1))
      case measure => have := HG.out; omega
      case rel => exact ⟨j + 1, _, true, by omega, rfl, (by have := HLE.out; have := HLN.out; rw [IntWalk.wrap64_in _ (by omega)]; rfl), rfl, rfl, (by rw [HTK.out, List.any_append]; simp [HID.out]), by rw [HTK.out, List.flatMap_append]; simpa [stepL, HID.out, if_neg (Int.not_lt.2 H4.out)] using HO5.out⟩
   ·have NID : Hid ((y.id != x.id) = true) := Lib.hid (by simpa using hid)
    have HID := Lib.hid hid; clear hid
    refine AnyOrder.region_kinds2 9 [.eq (ptr g 20), .eq (.slice (some ⟨b, off, none⟩) n sl2), .eq (.int .i64 (j : Int)), .eq (ptr b (off + j * 8)), .eq (ptr b (off + j * 8)), .eq (.int .i64 y.id), .eq (ptr s 0), .eq (.int .i64 x.id), .eq (.bool true)] (fun wx => Below wr.heap.size wr wx) (by kernel_rfl) (by kernel_rfl) rfl (by kernel_rfl) (below_drewN (Below.refl _ _) 1) (fun p _ _ hp => by simp at hp) ?_ ?_
    ·intro i o listed a1 w2 hin ho st hl hdep
     match i, ho with
     | 0, ho => (injection ho with ho; subst ho; have ec := AnyOrder.evc a1; have ef := AnyOrder.evf a1; have e0 : a1.eval (.tmp 2) = ptr g 0 := st.old hl 2 (by kernel_rfl); exact AnyOrder.sv rfl rfl (ptr g 20) (by generalize a1.eval = ρ at ec ef e0 ⊢; simp [execOp, ec, ef, e0, IntWalk.i64_left, go_sem]) st.inv (Below.refl _ _) rfl)
     | 1, ho => (injection ho with ho; subst ho; have ec := AnyOrder.evc a1; have ef := AnyOrder.evf a1; have e0 : a1.eval (.tmp 24) = ptr g 20 := st.done 0 24 (hdep ⟨0, .data⟩ (by simp) rfl) rfl; exact AnyOrder.sv rfl rfl (.slice (some ⟨b, off, none⟩) n sl2) (by have hk : w2.cell? ⟨g, 20, none⟩ = some (.slice (some ⟨b, off, none⟩) n sl2) := (st.inv.cell (p := ⟨g, 20, none⟩) HLG.out).trans kl2.out; generalize a1.eval = ρ at ec ef e0 ⊢; simp [execOp, e0, go_sem, hk]) st.inv (Below.refl _ _) rfl)
     | 2, ho => (injection ho with ho; subst ho; have e0 : a1.eval (.tmp 9) = .int .i64 (j : Int) := st.old hl 9 (by kernel_rfl); exact AnyOrder.sv rfl rfl (.int .i64 (j : Int)) (AnyOrder.run_move e0) st.inv (Below.refl _ _) rfl)
     | 3, ho => (injection ho with ho; subst ho; have ec := AnyOrder.evc a1; have ef := AnyOrder.evf a1; have e0 : a1.eval (.tmp 25) = .slice (some ⟨b, off, none⟩) n sl2 := st.done 1 25 (hdep ⟨1, .data⟩ (by simp) rfl) rfl; have e1 : a1.eval (.tmp 26) = .int .i64 (j : Int) := st.done 2 26 (hdep ⟨2, .data⟩ (by simp) rfl) rfl; exact AnyOrder.sv rfl rfl (ptr b (off + j * 8)) (by generalize a1.eval = ρ at ec ef e0 e1 ⊢; simp [execOp, e0, e1, go_sem, b3, b4]) st.inv (Below.refl _ _) rfl)
     | 4, ho => (injection ho with ho; subst ho; have ec := AnyOrder.evc a1; have ef := AnyOrder.evf a1; have e0 : a1.eval (.tmp 27) = ptr b (off + j * 8) := st.done 3 27 (hdep ⟨3, .data⟩ (by simp) rfl) rfl; exact AnyOrder.sv rfl rfl (ptr b (off + j * 8)) (by generalize a1.eval = ρ at ec ef e0 ⊢; simp [execOp, e0, go_sem]) st.inv (Below.refl _ _) rfl)
     | 5, ho => (injection ho with ho; subst ho; have ec := AnyOrder.evc a1; have ef := AnyOrder.evf a1; have e0 : a1.eval (.tmp 28) = ptr b (off + j * 8) := st.done 4 28 (hdep ⟨4, .data⟩ (by simp) rfl) rfl; exact AnyOrder.sv rfl rfl (.int .i64 y.id) (by have hk := (st.inv.cell (p := ⟨b, off + j * 8, none⟩) HLB.out).trans KID.out; generalize a1.eval = ρ at ec ef e0 ⊢; simp [execOp, e0, go_sem, hk]) st.inv (Below.refl _ _) rfl)
     | 6, ho => (injection ho with ho; subst ho; have ec := AnyOrder.evc a1; have ef := AnyOrder.evf a1; have e0 : a1.eval (.tmp 3) = ptr s 0 := st.old hl 3 (by kernel_rfl); exact AnyOrder.sv rfl rfl (ptr s 0) (by generalize a1.eval = ρ at ec ef e0 ⊢; simp [execOp, ec, ef, e0, IntWalk.i64_left, go_sem]) st.inv (Below.refl _ _) rfl)
     | 7, ho => (injection ho with ho; subst ho; have ec := AnyOrder.evc a1; have ef := AnyOrder.evf a1; have e0 : a1.eval (.tmp 30) = ptr s 0 := st.done 6 30 (hdep ⟨6, .data⟩ (by simp) rfl) rfl; exact AnyOrder.sv rfl rfl (.int .i64 x.id) (by have hk := KAt.get0 (At.step HS.out st.inv); generalize a1.eval = ρ at ec ef e0 ⊢; simp [execOp, e0, go_sem, hk]) st.inv (Below.refl _ _) rfl)
     | 8, ho => (injection ho with ho; subst ho; have ec := AnyOrder.evc a1; have ef := AnyOrder.evf a1; have e0 : a1.eval (.tmp 29) = .int .i64 y.id := st.done 5 29 (hdep ⟨5, .data⟩ (by simp) rfl) rfl; have e1 : a1.eval (.tmp 31) = .int .i64 x.id := st.done 7 31 (hdep ⟨7, .data⟩ (by simp) rfl) rfl; exact AnyOrder.sv rfl rfl (.bool true) (by generalize a1.eval = ρ at ec ef e0 e1 ⊢; simp [execOp, e0, e1, go_sem, NID.out]) st.inv (Below.refl _ _) rfl)
     | n + 9, ho => exact absurd hin (by omega)
    ·intro w2 hJ
     simp only [AnyOrder.finK, List.take_succ_cons, List.take_zero, List.drop_succ_cons, List.drop_zero, Act.put, List.setIfInBounds_toArray, List.set_cons_zero, List.set_cons_succ]
     have HOL2 := Lib.hid (HOL.out.step hJ)
     have kl3 : w2.cell? ⟨g, 20, none⟩ = some (.slice (some ⟨b, off, none⟩) n sl2) := (hJ.cell (p := ⟨g, 20, none⟩) HLG.out).trans kl2.out
     have HRY := Lib.hid (rng_below HR.out HLB.out hJ)
     obtain ⟨rv', w5, hr5, ho5⟩ := HOL2.out.push y (by omega) 63
     have HR5 := Lib.hid hr5; have HO5 := Lib.hid ho5; clear hr5 ho5
     go_wp2_with (first | ((with_reducible apply wpList_load_kpart (c := y) (h := HRY.out)); exact rfl; exact rfl; exact rfl) | ((with_reducible apply wpList_slice1 (c := y)); exact rfl; exact rfl; exact rfl) | (at_builtin; (refine Lib.wpList_append_run _ rfl (.tmp 33) (.tmp 39) 63 63 rfl _ _ rfl rfl rv' w5 HR5.out ?_)))
     go_roundg (n - (j + 1))
     case measure => have := HG.out; omega
     case rel => exact ⟨j + 1, rv', was, by omega, rfl, (by have := HLE.out; have := HLN.out; rw [IntWalk.wrap64_in _ (by omega)]; rfl), rfl, rfl, (by rw [HTK.out, List.any_append]; rw [← HWAS.out]; simp [HID.out]), by rw [HTK.out, List.flatMap_append]; simpa [stepL, HID.out] using HO5.out⟩
  ·obtain rfl : j = n := by omega
   have hw2 : wasN u x = was := by
    unfold wasN
    rw [HWAS.out, ← HNN.out, List.take_length]
   have hl2 : OL W wr lv (liveN u x) := by
    have := HOL.out
    rw [← HNN.out, List.take_length] at this
    exact this
   have HL := Lib.hid hl2; have HW2 := Lib.hid hw2; clear hw2 hl2 HOL HWAS
   have hlen : (liveN u x).length ≤ 1000 := Nat.le_trans (liveN_len u x) (by rw [HNN.out]; exact HLE.out)
   have hrd := (HROW.out.step HL.out.1).2
   obtain ⟨dv, w13, hr13, ho13⟩ := HL.out.copy hrd (by have := HDE.out; omega) 63
   have k21 : (wr.alloc (.cells #[] 46)).cell? ⟨g, 21, none⟩ = some (.slice sd.1 u.done.length sd.2) := by
    rw [Below.cell (below_new wr (.cells #[] 46)) (At.lt HB.out.bk)]; exact UkAt.k21 HB.out.bk
   have HR5 := Lib.hid hr13; have HO13 := Lib.hid ho13; clear hr13 ho13 hrd
   go_upto_region 13 with fail
   clear kl
   go_upto_region 14 with (at_builtin; (refine Lib.wpList_append_run _ rfl (.tmp 48) (.tmp 50) 63 63 rfl _ _ rfl rfl dv w13 HR5.out ?_))
   have H13 := Lib.hid (HN.out.step HO13.out.bel); clear HB HL HR5 k21
   have k5 := KAt.get5 H13.out.k
   by_cases h3 : 3 < x.st
   ·have d3 : decide (x.st > 3) = true := by simpa using h3
    have d3b : decide (3 < x.st) = true := by simpa using h3
    obtain ⟨dv2, w15, hr15, ho15⟩ := HO13.out.pushD x (by have := HDE.out; omega) 63
    have HR5 := Lib.hid hr15; have HO15 := Lib.hid ho15; have HK := Lib.hid H13.out.k; clear hr15 ho15
    have H3 := Lib.hid h3; clear h3
    go_upto_region 16 with (first | ((with_reducible apply wpList_load_kat (h := HK.out)); exact rfl; exact rfl; exact rfl) | ((with_reducible apply wpList_slice1 (c := x)); exact rfl; exact rfl; exact rfl) | (at_builtin; (refine Lib.wpList_append_run _ rfl (.tmp 55) (.tmp 57) 63 63 rfl _ _ rfl rfl dv2 w15 HR5.out ?_)))
    have H15 := Lib.hid (HN.out.step HO15.out.bel); clear H13 HR5 HK k5 HO13
    obtain ⟨slL, hslL, HRLv⟩ := RdG.of_own HO15.out.l
    obtain ⟨bD, cD, hslD, hcap, HRDv⟩ := RdG.of_own2 HO15.out.d (by simp)
    have HRL0 := Lib.hid HRLv; have HRD0 := Lib.hid HRDv; clear HRLv HRDv
    obtain ⟨L, hL⟩ : ∃ L, liveN u x = L := ⟨_, rfl⟩
    obtain ⟨Dn, hDn⟩ : ∃ Dn, u.done ++ [x] = Dn := ⟨_, rfl⟩
    rw [hL] at hslL HRL0 hlen; rw [hDn] at hslD HRD0 hcap
    have hDne : Dn ≠ [] := by rw [← hDn]; simp
    have hslL : lv = .slice slL.1 L.length slL.2 := hslL
    subst hslL hslD
    have HLL := Lib.hid hL; have HDD := Lib.hid hDn; have HCAP := Lib.hid hcap; clear hL hDn HO15 hcap
    have k3 := UkAt.kn H15.out.bk (j := 3) (by decide)
    by_cases hgt : u.c.get 3 < (Dn.length : Int)
    ·have dg : decide ((Dn.length : Int) > u.c.get 3) = true := by simpa using hgt
     have dgb : decide (u.c.get 3 < (Dn.length : Int)) = true := by simpa using hgt
     have HRES : Hid (nextU u x = ({ u with live := L, done := Dn.tail, ix := u.ix + 1 }, ⟨u.ix + 1, x, 0, 0⟩, 0)) := Lib.hid (by
      unfold nextU doneN; rw [if_pos H3.out, HLL.out, HDD.out, if_pos hgt])
     obtain ⟨d0, Dt, rfl⟩ : ∃ d0 Dt, Dn = d0 :: Dt := by
      cases Dn with
      | nil => exact absurd rfl hDne
      | cons d0 Dt => exact ⟨d0, Dt, rfl⟩
     have h1D : 1 ≤ (d0 :: Dt).length := by simp
     have h2D : 2 ≤ (d0 :: Dt).length := by have := HC3.out; omega
     have hrt := run_tail1 bD (d0 :: Dt).length cD h1D HCAP.out (by have := HCAP.out; omega) w15
     have e1D : (d0 :: Dt).length - 1 = Dt.length := by simp
     rw [e1D] at hrt
     have HRES2 : Hid (nextU u x = ({ u with live := L, done := Dt, ix := u.ix + 1 }, ⟨u.ix + 1, x, 0, 0⟩, 0)) := Lib.hid HRES.out
     have HRT := Lib.hid HRD0.out.tail
     obtain ⟨slD, hsl⟩ : ∃ s : Sl, s = ((some ⟨bD, 8, none⟩, cD - 1) : Sl) := ⟨_, rfl⟩
     rw [show ((some ⟨bD, 8, none⟩, cD - 1) : Sl) = slD from hsl.symm] at HRT
     have e2D : Value.slice (some ⟨bD, 8, none⟩) Dt.length (cD - 1) = Value.slice slD.1 Dt.length slD.2 := by rw [hsl]
     rw [e2D] at hrt
     clear hsl e2D h1D h2D e1D hDne hgt HRES HCAP HRD0 HDD
     generalize (d0 :: Dt).length = ND at *
     have HRES := HRES2
     go_upto_region 22 with fail
     clear hrt dg dgb k3
     have k20 := UkAt.k20 H15.out.bk; have f20 := At.frozen H15.out.bk 20
     go_upto_region 23 with fail
     have HT1 : Hid (TL w (w15.setCell ⟨g, 20, none⟩ (.slice slL.1 L.length slL.2)) W.heap.size g s q r { u with live := L } slL sd x) := Lib.hid (H15.out.one (UkAt.setL H15.out.bk L slL))
     have HA1 := Lib.hid (Abv.cell (p := ⟨g, 20, none⟩) H15.out.hi.1 (Value.slice slL.1 L.length slL.2) (w := w15))
     obtain ⟨y1, hy1⟩ : ∃ y1, w15.setCell ⟨g, 20, none⟩ (.slice slL.1 L.length slL.2) = y1 := ⟨_, rfl⟩
     rw [hy1] at HT1 HA1 ⊢; clear hy1 k20 f20
     have k21 := UkAt.k21 HT1.out.bk; have f21 := At.frozen HT1.out.bk 21
     go_upto_region 24 with fail
     have HT2 : Hid (TL w (y1.setCell ⟨g, 21, none⟩ (.slice slD.1 Dt.length slD.2)) W.heap.size g s q r { u with live := L, done := Dt } slL slD x) := Lib.hid (HT1.out.one (UkAt.setD HT1.out.bk Dt slD))
     have HA2 := Lib.hid (HA1.out.trans (Abv.cell (p := ⟨g, 21, none⟩) HT1.out.hi.1 (Value.slice slD.1 Dt.length slD.2) (w := y1)))
     obtain ⟨y2, hy2⟩ : ∃ y2, y1.setCell ⟨g, 21, none⟩ (.slice slD.1 Dt.length slD.2) = y2 := ⟨_, rfl⟩
     rw [hy2] at HT2 HA2 ⊢; clear hy2 k21 f21 HT1 HA1
     have k19 := UkAt.k19 HT2.out.bk; have f19 := At.frozen HT2.out.bk 19
     go_upto_region 25 with fail
     have HT3 : Hid (TL w (y2.setCell ⟨g, 19, none⟩ (.int .i64 (u.ix + 1))) W.heap.size g s q r { u with live := L, done := Dt, ix := u.ix + 1 } slL slD x) := Lib.hid (HT2.out.one (UkAt.setI HT2.out.bk (u.ix + 1)))
     have HA3 := Lib.hid (HA2.out.trans (Abv.cell (p := ⟨g, 19, none⟩) HT2.out.hi.1 (Value.int .i64 (u.ix + 1)) (w := y2)))
     obtain ⟨y3, hy3⟩ : ∃ y3, y2.setCell ⟨g, 19, none⟩ (.int .i64 (u.ix + 1)) = y3 := ⟨_, rfl⟩
     rw [hy3] at HT3 HA3 ⊢; clear hy3 k19 f19 HT2 HA2
     have HRL := Lib.hid ((HRL0.out).abv HA3.out); have HRD := Lib.hid ((HRT.out).abv HA3.out)
     have hcg : nextU u x = ({ u with live := L, done := Dt, ix := u.ix + 1 }, ⟨u.ix + 1, x, 0, 0⟩, 0) := HRES.out
     clear HA3
     obtain ⟨u', hu'⟩ : ∃ u' : U, { u with live := L, done := Dt, ix := u.ix + 1 } = u' := ⟨_, rfl⟩
     have hix' : u'.ix = u.ix + 1 := by rw [← hu']
     have HUA : Hid (∀ w9, Abv W.heap.size y3 w9 → UAt w9 u' slL slD) := Lib.hid (fun w9 h9 => by rw [← hu']; exact ⟨(HRL.out.abv h9).rdf, (HRD.out.abv h9).rdf⟩)
     rw [hu'] at HT3 hcg; clear hu' HRL HRD
     obtain ⟨cg, hcg2⟩ : ∃ cg : Cg, (⟨u.ix + 1, x, 0, 0⟩ : Cg) = cg := ⟨_, rfl⟩
     rw [hcg2] at hcg
     have HNX := Lib.hid hcg
     have HCG := Lib.hid hcg2; have HIX := Lib.hid hix'
     clear hcg hcg2 hix'
     refine AnyOrder.region_put 6 [u'.V slL slD, ptr g 19, .int .i64 (u.ix + 1), x.V, cg.V, undef] (fun i w1 => i = 5 → UkAt w1 q u' slL slD) (fun w1 => TL w w1 W.heap.size g s q r u' slL slD x ∧ Abv W.heap.size y3 w1) (by kernel_rfl) (by kernel_rfl) rfl ?_ ⟨HT3.out.drew, (Abv.refl W.heap.size y3).drew⟩ ?_ ?_
     ·intro i hi hd
      match i, hi with
      | 0, _ => cases hd
      | 1, _ => cases hd
      | 2, _ => cases hd
      | 3, _ => cases hd
      | 4, _ => cases hd
      | 5, _ => rfl
     ·intro i o listed a1 w2 hin ho st hl hdep
      have e2 : a1.eval (.tmp 2) = ptr g 0 := st.old hl 2 (by kernel_rfl)
      have e3 : a1.eval (.tmp 3) = ptr s 0 := st.old hl 3 (by kernel_rfl)
      have e4 : a1.eval (.tmp 4) = ptr q 0 := st.old hl 4 (by kernel_rfl)
      match i, ho with
      | 0, ho => (injection ho with ho; subst ho; exact AnyOrder.step5_value rfl (AnyOrder.wanted_none rfl) (u'.V slL slD) (run_load_uk e2 st.inv.1.bk) st.inv rfl (fun j hj => st.mark j hj) (fun h => by cases h))
      | 1, ho => (injection ho with ho; subst ho; exact AnyOrder.step5_value rfl (AnyOrder.wanted_none rfl) (ptr g 19) (by generalize a1.eval = ρ at e2 ⊢; simp [execOp, e2, go_sem]) st.inv rfl (fun j hj => st.mark j hj) (fun h => by cases h))
      | 2, ho => (injection ho with ho; subst ho; have ed : a1.eval (.tmp 90) = ptr g 19 := st.done 1 90 (hdep ⟨1, .data⟩ (by simp) rfl) rfl; exact AnyOrder.step5_value rfl (AnyOrder.wanted_none rfl) (.int .i64 (u.ix + 1)) (by have hk := UkAt.k19 st.inv.1.bk; rw [HIX.out] at hk; generalize a1.eval = ρ at ed ⊢; simp [execOp, ed, go_sem, hk]) st.inv rfl (fun j hj => st.mark j hj) (fun h => by cases h))
      | 3, ho => (injection ho with ho; subst ho; exact AnyOrder.step5_value rfl (AnyOrder.wanted_none rfl) x.V (run_load_k e3 st.inv.1.k) st.inv rfl (fun j hj => st.mark j hj) (fun h => by cases h))
      | 4, ho => (injection ho with ho; subst ho; have e91 : a1.eval (.tmp 91) = .int .i64 (u.ix + 1) := st.done 2 91 (hdep ⟨2, .data⟩ (by simp) rfl) rfl; have e92 : a1.eval (.tmp 92) = x.V := st.done 3 92 (hdep ⟨3, .data⟩ (by simp) rfl) rfl; exact AnyOrder.step5_value rfl (AnyOrder.wanted_none rfl) cg.V (by rw [← HCG.out]; exact run_build_nx e91 e92) st.inv rfl (fun j hj => st.mark j hj) (fun h => by cases h))
      | 5, ho => (injection ho with ho; subst ho; have e89 : a1.eval (.tmp 89) = u'.V slL slD := st.done 0 89 (hdep ⟨0, .data⟩ (by simp) rfl) rfl; exact AnyOrder.step5_store rfl (AnyOrder.wanted_none rfl) rfl (run_store_uk e4 e89 st.inv.1.ans.choose_spec.choose_spec.choose_spec) ⟨st.inv.1.put.1, st.inv.2.trans (Abv.row st.inv.1.hi.2.1 _)⟩ (fun j _ _ => st.inv.1.put.2))
      | n + 6, ho => exact absurd hin (by omega)
     ·intro y4 hJ4 hM4
      have HQ4 : Hid (UkAt y4 q u' slL slD) := Lib.hid (hM4 5 (by decide) rfl)
      have HR4 := Lib.hid hJ4.1.an2
      have HF := Lib.hid (hJ4.1.fin HQ4.out cg 0 (HUA.out _ (hJ4.2.trans (Abv.row hJ4.1.hi.2.2 _))))
      clear hJ4 hM4
      simp only [AnyOrder.finK, List.map_cons, List.map_nil, List.take_succ_cons, List.take_zero, List.drop_succ_cons, List.drop_zero, Act.put, List.setIfInBounds_toArray, List.set_cons_zero, List.set_cons_succ]
      go_wp2_with ((with_reducible apply wpList_store_cg (c := cg) (hq := HR4.out)); exact rfl; exact rfl; exact rfl; exact rfl)
      exact bodyPost_ret (results_u3 Tryz.results58 rfl rfl rfl HF.out.1 HF.out.2.1) rfl (by rw [HNX.out]; exact HF.out.2.2)
    ·have dg : decide ((Dn.length : Int) > u.c.get 3) = false := by simpa using hgt
     have dgb : decide (u.c.get 3 < (Dn.length : Int)) = false := by simpa using hgt
     have HRES : Hid (nextU u x = ({ u with live := L, done := Dn, ix := u.ix + 1 }, ⟨u.ix + 1, x, 0, 0⟩, 0)) := Lib.hid (by
      unfold nextU doneN; rw [if_pos H3.out, HLL.out, HDD.out, if_neg hgt])
     go_upto_region 22 with fail
     clear dg dgb k3 hgt hDne
     obtain ⟨slD, hsl⟩ : ∃ s : Sl, s = ((some ⟨bD, 0, none⟩, cD) : Sl) := ⟨_, rfl⟩
     rw [show ((some ⟨bD, 0, none⟩, cD) : Sl) = slD from hsl.symm] at HRD0
     rw [show Value.slice (some ⟨bD, 0, none⟩) Dn.length cD = Value.slice slD.1 Dn.length slD.2 by rw [hsl]]
     clear hsl
     have k20 := UkAt.k20 H15.out.bk; have f20 := At.frozen H15.out.bk 20
     go_upto_region 23 with fail
     have HT1 : Hid (TL w (w15.setCell ⟨g, 20, none⟩ (.slice slL.1 L.length slL.2)) W.heap.size g s q r { u with live := L } slL sd x) := Lib.hid (H15.out.one (UkAt.setL H15.out.bk L slL))
     have HA1 := Lib.hid (Abv.cell (p := ⟨g, 20, none⟩) H15.out.hi.1 (Value.slice slL.1 L.length slL.2) (w := w15))
     obtain ⟨y1, hy1⟩ : ∃ y1, w15.setCell ⟨g, 20, none⟩ (.slice slL.1 L.length slL.2) = y1 := ⟨_, rfl⟩
     rw [hy1] at HT1 HA1 ⊢; clear hy1 k20 f20
     have k21 := UkAt.k21 HT1.out.bk; have f21 := At.frozen HT1.out.bk 21
     go_upto_region 24 with fail
     have HT2 : Hid (TL w (y1.setCell ⟨g, 21, none⟩ (.slice slD.1 Dn.length slD.2)) W.heap.size g s q r { u with live := L, done := Dn } slL slD x) := Lib.hid (HT1.out.one (UkAt.setD HT1.out.bk Dn slD))
     have HA2 := Lib.hid (HA1.out.trans (Abv.cell (p := ⟨g, 21, none⟩) HT1.out.hi.1 (Value.slice slD.1 Dn.length slD.2) (w := y1)))
     obtain ⟨y2, hy2⟩ : ∃ y2, y1.setCell ⟨g, 21, none⟩ (.slice slD.1 Dn.length slD.2) = y2 := ⟨_, rfl⟩
     rw [hy2] at HT2 HA2 ⊢; clear hy2 k21 f21 HT1 HA1
     have k19 := UkAt.k19 HT2.out.bk; have f19 := At.frozen HT2.out.bk 19
     go_upto_region 25 with fail
     have HT3 : Hid (TL w (y2.setCell ⟨g, 19, none⟩ (.int .i64 (u.ix + 1))) W.heap.size g s q r { u with live := L, done := Dn, ix := u.ix + 1 } slL slD x) := Lib.hid (HT2.out.one (UkAt.setI HT2.out.bk (u.ix + 1)))
     have HA3 := Lib.hid (HA2.out.trans (Abv.cell (p := ⟨g, 19, none⟩) HT2.out.hi.1 (Value.int .i64 (u.ix + 1)) (w := y2)))
     obtain ⟨y3, hy3⟩ : ∃ y3, y2.setCell ⟨g, 19, none⟩ (.int .i64 (u.ix + 1)) = y3 := ⟨_, rfl⟩
     rw [hy3] at HT3 HA3 ⊢; clear hy3 k19 f19 HT2 HA2
     have HRL := Lib.hid ((HRL0.out).abv HA3.out); have HRD := Lib.hid ((HRD0.out).abv HA3.out)
     have hcg : nextU u x = ({ u with live := L, done := Dn, ix := u.ix + 1 }, ⟨u.ix + 1, x, 0, 0⟩, 0) := HRES.out
     clear HA3
     obtain ⟨u', hu'⟩ : ∃ u' : U, { u with live := L, done := Dn, ix := u.ix + 1 } = u' := ⟨_, rfl⟩
     have hix' : u'.ix = u.ix + 1 := by rw [← hu']
     have HUA : Hid (∀ w9, Abv W.heap.size y3 w9 → UAt w9 u' slL slD) := Lib.hid (fun w9 h9 => by rw [← hu']; exact ⟨(HRL.out.abv h9).rdf, (HRD.out.abv h9).rdf⟩)
     rw [hu'] at HT3 hcg; clear hu' HRL HRD
     obtain ⟨cg, hcg2⟩ : ∃ cg : Cg, (⟨u.ix + 1, x, 0, 0⟩ : Cg) = cg := ⟨_, rfl⟩
     rw [hcg2] at hcg
     have HNX := Lib.hid hcg
     have HCG := Lib.hid hcg2; have HIX := Lib.hid hix'
     clear hcg hcg2 hix'
     refine AnyOrder.region_put 6 [u'.V slL slD, ptr g 19, .int .i64 (u.ix + 1), x.V, cg.V, undef] (fun i w1 => i = 5 → UkAt w1 q u' slL slD) (fun w1 => TL w w1 W.heap.size g s q r u' slL slD x ∧ Abv W.heap.size y3 w1) (by kernel_rfl) (by kernel_rfl) rfl ?_ ⟨HT3.out.drew, (Abv.refl W.heap.size y3).drew⟩ ?_ ?_
     ·intro i hi hd
      match i, hi with
      | 0, _ => cases hd
      | 1, _ => cases hd
      | 2, _ => cases hd
      | 3, _ => cases hd
      | 4, _ => cases hd
      | 5, _ => rfl
     ·intro i o listed a1 w2 hin ho st hl hdep
      have e2 : a1.eval (.tmp 2) = ptr g 0 := st.old hl 2 (by kernel_rfl)
      have e3 : a1.eval (.tmp 3) = ptr s 0 := st.old hl 3 (by kernel_rfl)
      have e4 : a1.eval (.tmp 4) = ptr q 0 := st.old hl 4 (by kernel_rfl)
      match i, ho with
      | 0, ho => (injection ho with ho; subst ho; exact AnyOrder.step5_value rfl (AnyOrder.wanted_none rfl) (u'.V slL slD) (run_load_uk e2 st.inv.1.bk) st.inv rfl (fun j hj => st.mark j hj) (fun h => by cases h))
      | 1, ho => (injection ho with ho; subst ho; exact AnyOrder.step5_value rfl (AnyOrder.wanted_none rfl) (ptr g 19) (by generalize a1.eval = ρ at e2 ⊢; simp [execOp, e2, go_sem]) st.inv rfl (fun j hj => st.mark j hj) (fun h => by cases h))
      | 2, ho => (injection ho with ho; subst ho; have ed : a1.eval (.tmp 90) = ptr g 19 := st.done 1 90 (hdep ⟨1, .data⟩ (by simp) rfl) rfl; exact AnyOrder.step5_value rfl (AnyOrder.wanted_none rfl) (.int .i64 (u.ix + 1)) (by have hk := UkAt.k19 st.inv.1.bk; rw [HIX.out] at hk; generalize a1.eval = ρ at ed ⊢; simp [execOp, ed, go_sem, hk]) st.inv rfl (fun j hj => st.mark j hj) (fun h => by cases h))
      | 3, ho => (injection ho with ho; subst ho; exact AnyOrder.step5_value rfl (AnyOrder.wanted_none rfl) x.V (run_load_k e3 st.inv.1.k) st.inv rfl (fun j hj => st.mark j hj) (fun h => by cases h))
      | 4, ho => (injection ho with ho; subst ho; have e91 : a1.eval (.tmp 91) = .int .i64 (u.ix + 1) := st.done 2 91 (hdep ⟨2, .data⟩ (by simp) rfl) rfl; have e92 : a1.eval (.tmp 92) = x.V := st.done 3 92 (hdep ⟨3, .data⟩ (by simp) rfl) rfl; exact AnyOrder.step5_value rfl (AnyOrder.wanted_none rfl) cg.V (by rw [← HCG.out]; exact run_build_nx e91 e92) st.inv rfl (fun j hj => st.mark j hj) (fun h => by cases h))
      | 5, ho => (injection ho with ho; subst ho; have e89 : a1.eval (.tmp 89) = u'.V slL slD := st.done 0 89 (hdep ⟨0, .data⟩ (by simp) rfl) rfl; exact AnyOrder.step5_store rfl (AnyOrder.wanted_none rfl) rfl (run_store_uk e4 e89 st.inv.1.ans.choose_spec.choose_spec.choose_spec) ⟨st.inv.1.put.1, st.inv.2.trans (Abv.row st.inv.1.hi.2.1 _)⟩ (fun j _ _ => st.inv.1.put.2))
      | n + 6, ho => exact absurd hin (by omega)
     ·intro y4 hJ4 hM4
      have HQ4 : Hid (UkAt y4 q u' slL slD) := Lib.hid (hM4 5 (by decide) rfl)
      have HR4 := Lib.hid hJ4.1.an2
      have HF := Lib.hid (hJ4.1.fin HQ4.out cg 0 (HUA.out _ (hJ4.2.trans (Abv.row hJ4.1.hi.2.2 _))))
      clear hJ4 hM4
      simp only [AnyOrder.finK, List.map_cons, List.map_nil, List.take_succ_cons, List.take_zero, List.drop_succ_cons, List.drop_zero, Act.put, List.setIfInBounds_toArray, List.set_cons_zero, List.set_cons_succ]
      go_wp2_with ((with_reducible apply wpList_store_cg (c := cg) (hq := HR4.out)); exact rfl; exact rfl; exact rfl; exact rfl)
      exact bodyPost_ret (results_u3 Tryz.results58 rfl rfl rfl HF.out.1 HF.out.2.1) rfl (by rw [HNX.out]; exact HF.out.2.2)
   ·have d3 : decide (x.st > 3) = false := by simpa using h3
    have d3b : decide (3 < x.st) = false := by simpa using h3
    have H3 := Lib.hid h3; clear h3
    obtain ⟨slL, hslL, HRLv⟩ := RdG.of_own HO13.out.l
    obtain ⟨slD, hslD, HRDv⟩ := RdG.of_own HO13.out.d
    have HRL0 := Lib.hid HRLv; have HRD0 := Lib.hid HRDv; clear HRLv HRDv
    cases was
    ·have HRES0 : Hid (nextU u x = if u.c.get 3 ≤ ((liveN u x).length : Int) then (zu, zg, 5) else ({ u with live := liveN u x ++ [x], ix := u.ix + 1 }, ⟨u.ix + 1, x, 0, 0⟩, 0)) := Lib.hid (by
      unfold nextU; rw [if_neg H3.out, if_neg (by rw [HW2.out]; decide)])
     have k3 := UkAt.kn H13.out.bk (j := 3) (by decide)
     by_cases hfu : u.c.get 3 ≤ ((liveN u x).length : Int)
     ·have hrs := HRES0.out
      rw [if_pos hfu] at hrs
      have HRES := Lib.hid hrs; clear hrs HRES0
      have hslL : lv = .slice slL.1 (liveN u x).length slL.2 := hslL
      subst hslL
      generalize (liveN u x).length = NL at *
      have dg : decide ((NL : Int) ≥ u.c.get 3) = true := by simpa using hfu
      have dgb : decide (u.c.get 3 ≤ (NL : Int)) = true := by simpa using hfu
      clear hfu
      obtain ⟨z, a, b, hz⟩ := H13.out.ans
      have HQ := Lib.hid hz
      have hz2 : UkAt (w13.setRow q (zu.cells s0 s0)) q zu s0 s0 := At.setRow hz _
      have hR : CgAt (w13.setRow q (zu.cells s0 s0)) r zg := At.farRow H13.out.an2 (At.ne H13.out.an2 hz (by decide))
      have HR := Lib.hid hR
      have HF1 := Lib.hid (At.farRow (ds := zg.cells) hz2 (At.ne hz2 hR (by decide)))
      have HF2 : Hid (CgAt ((w13.setRow q (zu.cells s0 s0)).setRow r zg.cells) r zg) := Lib.hid (At.setRow hR _)
      have HF3 : Hid (U3 w (zu, zg, 5) (.returned (.tuple #[zu.V s0 s0, zg.V, .int .i64 5])) ((w13.setRow q (zu.cells s0 s0)).setRow r zg.cells)) := Lib.hid ⟨s0, s0, rfl, UAt.zero _, setRow_below (setRow_below H13.out.bel H13.out.lo.2.1 _) H13.out.lo.2.2 _⟩
      clear hz hz2 hR
      go_wp2_with (first | ((with_reducible apply wpList_build_zu); exact rfl; exact rfl) | ((with_reducible apply wpList_build_zg); exact rfl; exact rfl) | ((with_reducible apply wpList_store_uk (b := zu) (s := s0) (t := s0) (hq := HQ.out)); exact rfl; exact rfl; exact rfl; exact rfl) | ((with_reducible apply wpList_store_cg (c := zg) (hq := HR.out)); exact rfl; exact rfl; exact rfl; exact rfl))
      exact bodyPost_ret (results_u3 Tryz.results58 rfl rfl rfl HF1.out HF2.out) rfl (by rw [HRES.out]; exact HF3.out)
     ·have hrs := HRES0.out
      rw [if_neg hfu] at hrs
      have HRES := Lib.hid hrs; clear hrs HRES0
      have hslL : lv = .slice slL.1 (liveN u x).length slL.2 := hslL
      obtain ⟨lv2, w21, hr21, ho21⟩ := HO13.out.pushL x (by omega) 63
      rw [hslL] at hr21
      subst hslL
      have HR5 := Lib.hid hr21; have HO21 := Lib.hid ho21; have HK := Lib.hid H13.out.k; clear hr21 ho21
      obtain ⟨NL, hNL⟩ : ∃ NL, (liveN u x).length = NL := ⟨_, rfl⟩
      rw [hNL] at hfu HR5 hlen ⊢
      have dg : decide ((NL : Int) ≥ u.c.get 3) = false := by simpa using hfu
      have dgb : decide (u.c.get 3 ≤ (NL : Int)) = false := by simpa using hfu
      clear hfu hNL hslD HRL0 HRD0
      go_upto_region 22 with (first | ((with_reducible apply wpList_load_kat (h := HK.out)); exact rfl; exact rfl; exact rfl) | ((with_reducible apply wpList_slice1 (c := x)); exact rfl; exact rfl; exact rfl) | (at_builtin; (refine Lib.wpList_append_run _ rfl (.tmp 77) (.tmp 79) 63 63 rfl _ _ rfl rfl lv2 w21 HR5.out ?_)))
      have H21 := Lib.hid (HN.out.step HO21.out.bel); clear H13 HR5 HK k5 HO13 dg dgb k3 d3 d3b
      obtain ⟨slL2, hslL2, HRLv⟩ := RdG.of_own HO21.out.l
      obtain ⟨slD2, hslD2, HRDv⟩ := RdG.of_own HO21.out.d
      have HRL0 := Lib.hid HRLv; have HRD0 := Lib.hid HRDv; clear HRLv HRDv
      obtain ⟨L, hL⟩ : ∃ L, liveN u x ++ [x] = L := ⟨_, rfl⟩
      rw [hL] at hslL2 HRL0 HRES
      have hslL2 : lv2 = .slice slL2.1 L.length slL2.2 := hslL2
      have hslD2 : dv = .slice slD2.1 u.done.length slD2.2 := hslD2
      subst hslL2 hslD2
      clear HO21 hL
      have k20 := UkAt.k20 H21.out.bk; have f20 := At.frozen H21.out.bk 20
      go_upto_region 23 with fail
      have HT1 : Hid (TL w (w21.setCell ⟨g, 20, none⟩ (.slice slL2.1 L.length slL2.2)) W.heap.size g s q r { u with live := L } slL2 sd x) := Lib.hid (H21.out.one (UkAt.setL H21.out.bk L slL2))
      have HA1 := Lib.hid (Abv.cell (p := ⟨g, 20, none⟩) H21.out.hi.1 (Value.slice slL2.1 L.length slL2.2) (w := w21))
      obtain ⟨y1, hy1⟩ : ∃ y1, w21.setCell ⟨g, 20, none⟩ (.slice slL2.1 L.length slL2.2) = y1 := ⟨_, rfl⟩
      rw [hy1] at HT1 HA1 ⊢; clear hy1 k20 f20
      have k21 := UkAt.k21 HT1.out.bk; have f21 := At.frozen HT1.out.bk 21
      go_upto_region 24 with fail
      have HT2 : Hid (TL w (y1.setCell ⟨g, 21, none⟩ (.slice slD2.1 u.done.length slD2.2)) W.heap.size g s q r { u with live := L, done := u.done } slL2 slD2 x) := Lib.hid (HT1.out.one (UkAt.setD HT1.out.bk u.done slD2))
      have HA2 := Lib.hid (HA1.out.trans (Abv.cell (p := ⟨g, 21, none⟩) HT1.out.hi.1 (Value.slice slD2.1 u.done.length slD2.2) (w := y1)))
      obtain ⟨y2, hy2⟩ : ∃ y2, y1.setCell ⟨g, 21, none⟩ (.slice slD2.1 u.done.length slD2.2) = y2 := ⟨_, rfl⟩
      rw [hy2] at HT2 HA2 ⊢; clear hy2 k21 f21 HT1 HA1
      have k19 := UkAt.k19 HT2.out.bk; have f19 := At.frozen HT2.out.bk 19
      go_upto_region 25 with fail
      have HT3 : Hid (TL w (y2.setCell ⟨g, 19, none⟩ (.int .i64 (u.ix + 1))) W.heap.size g s q r { u with live := L, done := u.done, ix := u.ix + 1 } slL2 slD2 x) := Lib.hid (HT2.out.one (UkAt.setI HT2.out.bk (u.ix + 1)))
      have HA3 := Lib.hid (HA2.out.trans (Abv.cell (p := ⟨g, 19, none⟩) HT2.out.hi.1 (Value.int .i64 (u.ix + 1)) (w := y2)))
      obtain ⟨y3, hy3⟩ : ∃ y3, y2.setCell ⟨g, 19, none⟩ (.int .i64 (u.ix + 1)) = y3 := ⟨_, rfl⟩
      rw [hy3] at HT3 HA3 ⊢; clear hy3 k19 f19 HT2 HA2
      have HRL := Lib.hid ((HRL0.out).abv HA3.out); have HRD := Lib.hid ((HRD0.out).abv HA3.out)
      have hcg : nextU u x = ({ u with live := L, done := u.done, ix := u.ix + 1 }, ⟨u.ix + 1, x, 0, 0⟩, 0) := HRES.out
      clear HA3
      obtain ⟨u', hu'⟩ : ∃ u' : U, { u with live := L, done := u.done, ix := u.ix + 1 } = u' := ⟨_, rfl⟩
      have hix' : u'.ix = u.ix + 1 := by rw [← hu']
      have HUA : Hid (∀ w9, Abv W.heap.size y3 w9 → UAt w9 u' slL2 slD2) := Lib.hid (fun w9 h9 => by rw [← hu']; exact ⟨(HRL.out.abv h9).rdf, (HRD.out.abv h9).rdf⟩)
      rw [hu'] at HT3 hcg; clear hu' HRL HRD
      obtain ⟨cg, hcg2⟩ : ∃ cg : Cg, (⟨u.ix + 1, x, 0, 0⟩ : Cg) = cg := ⟨_, rfl⟩
      rw [hcg2] at hcg
      have HNX := Lib.hid hcg
      have HCG := Lib.hid hcg2; have HIX := Lib.hid hix'
      clear hcg hcg2 hix'
      refine AnyOrder.region_put 6 [u'.V slL2 slD2, ptr g 19, .int .i64 (u.ix + 1), x.V, cg.V, undef] (fun i w1 => i = 5 → UkAt w1 q u' slL2 slD2) (fun w1 => TL w w1 W.heap.size g s q r u' slL2 slD2 x ∧ Abv W.heap.size y3 w1) (by kernel_rfl) (by kernel_rfl) rfl ?_ ⟨HT3.out.drew, (Abv.refl W.heap.size y3).drew⟩ ?_ ?_
      ·intro i hi hd
       match i, hi with
       | 0, _ => cases hd
       | 1, _ => cases hd
       | 2, _ => cases hd
       | 3, _ => cases hd
       | 4, _ => cases hd
       | 5, _ => rfl
      ·intro i o listed a1 w2 hin ho st hl hdep
       have e2 : a1.eval (.tmp 2) = ptr g 0 := st.old hl 2 (by kernel_rfl)
       have e3 : a1.eval (.tmp 3) = ptr s 0 := st.old hl 3 (by kernel_rfl)
       have e4 : a1.eval (.tmp 4) = ptr q 0 := st.old hl 4 (by kernel_rfl)
       match i, ho with
       | 0, ho => (injection ho with ho; subst ho; exact AnyOrder.step5_value rfl (AnyOrder.wanted_none rfl) (u'.V slL2 slD2) (run_load_uk e2 st.inv.1.bk) st.inv rfl (fun j hj => st.mark j hj) (fun h => by cases h))
       | 1, ho => (injection ho with ho; subst ho; exact AnyOrder.step5_value rfl (AnyOrder.wanted_none rfl) (ptr g 19) (by generalize a1.eval = ρ at e2 ⊢; simp [execOp, e2, go_sem]) st.inv rfl (fun j hj => st.mark j hj) (fun h => by cases h))
       | 2, ho => (injection ho with ho; subst ho; have ed : a1.eval (.tmp 90) = ptr g 19 := st.done 1 90 (hdep ⟨1, .data⟩ (by simp) rfl) rfl; exact AnyOrder.step5_value rfl (AnyOrder.wanted_none rfl) (.int .i64 (u.ix + 1)) (by have hk := UkAt.k19 st.inv.1.bk; rw [HIX.out] at hk; generalize a1.eval = ρ at ed ⊢; simp [execOp, ed, go_sem, hk]) st.inv rfl (fun j hj => st.mark j hj) (fun h => by cases h))
       | 3, ho => (injection ho with ho; subst ho; exact AnyOrder.step5_value rfl (AnyOrder.wanted_none rfl) x.V (run_load_k e3 st.inv.1.k) st.inv rfl (fun j hj => st.mark j hj) (fun h => by cases h))
       | 4, ho => (injection ho with ho; subst ho; have e91 : a1.eval (.tmp 91) = .int .i64 (u.ix + 1) := st.done 2 91 (hdep ⟨2, .data⟩ (by simp) rfl) rfl; have e92 : a1.eval (.tmp 92) = x.V := st.done 3 92 (hdep ⟨3, .data⟩ (by simp) rfl) rfl; exact AnyOrder.step5_value rfl (AnyOrder.wanted_none rfl) cg.V (by rw [← HCG.out]; exact run_build_nx e91 e92) st.inv rfl (fun j hj => st.mark j hj) (fun h => by cases h))
       | 5, ho => (injection ho with ho; subst ho; have e89 : a1.eval (.tmp 89) = u'.V slL2 slD2 := st.done 0 89 (hdep ⟨0, .data⟩ (by simp) rfl) rfl; exact AnyOrder.step5_store rfl (AnyOrder.wanted_none rfl) rfl (run_store_uk e4 e89 st.inv.1.ans.choose_spec.choose_spec.choose_spec) ⟨st.inv.1.put.1, st.inv.2.trans (Abv.row st.inv.1.hi.2.1 _)⟩ (fun j _ _ => st.inv.1.put.2))
       | n + 6, ho => exact absurd hin (by omega)
      ·intro y4 hJ4 hM4
       have HQ4 : Hid (UkAt y4 q u' slL2 slD2) := Lib.hid (hM4 5 (by decide) rfl)
       have HR4 := Lib.hid hJ4.1.an2
       have HF := Lib.hid (hJ4.1.fin HQ4.out cg 0 (HUA.out _ (hJ4.2.trans (Abv.row hJ4.1.hi.2.2 _))))
       clear hJ4 hM4
       simp only [AnyOrder.finK, List.map_cons, List.map_nil, List.take_succ_cons, List.take_zero, List.drop_succ_cons, List.drop_zero, Act.put, List.setIfInBounds_toArray, List.set_cons_zero, List.set_cons_succ]
       go_wp2_with ((with_reducible apply wpList_store_cg (c := cg) (hq := HR4.out)); exact rfl; exact rfl; exact rfl; exact rfl)
       exact bodyPost_ret (results_u3 Tryz.results58 rfl rfl rfl HF.out.1 HF.out.2.1) rfl (by rw [HNX.out]; exact HF.out.2.2)
    ·have HRES0 : Hid (nextU u x = ({ u with live := liveN u x, ix := u.ix + 1 }, ⟨u.ix + 1, x, 0, 0⟩, 0)) := Lib.hid (by
      unfold nextU; rw [if_neg H3.out, if_pos HW2.out])
     obtain ⟨L, hL⟩ : ∃ L, liveN u x = L := ⟨_, rfl⟩
     rw [hL] at hslL HRL0 HRES0
     have HRES := HRES0
     have hslL : lv = .slice slL.1 L.length slL.2 := hslL
     have hslD : dv = .slice slD.1 u.done.length slD.2 := hslD
     subst hslL hslD
     clear HO13 hL HRES0 hlen
     go_upto_region 22 with fail
     clear d3 d3b k5
     have k20 := UkAt.k20 H13.out.bk; have f20 := At.frozen H13.out.bk 20
     go_upto_region 23 with fail
     have HT1 : Hid (TL w (w13.setCell ⟨g, 20, none⟩ (.slice slL.1 L.length slL.2)) W.heap.size g s q r { u with live := L } slL sd x) := Lib.hid (H13.out.one (UkAt.setL H13.out.bk L slL))
     have HA1 := Lib.hid (Abv.cell (p := ⟨g, 20, none⟩) H13.out.hi.1 (Value.slice slL.1 L.length slL.2) (w := w13))
     obtain ⟨y1, hy1⟩ : ∃ y1, w13.setCell ⟨g, 20, none⟩ (.slice slL.1 L.length slL.2) = y1 := ⟨_, rfl⟩
     rw [hy1] at HT1 HA1 ⊢; clear hy1 k20 f20
     have k21 := UkAt.k21 HT1.out.bk; have f21 := At.frozen HT1.out.bk 21
     go_upto_region 24 with fail
     have HT2 : Hid (TL w (y1.setCell ⟨g, 21, none⟩ (.slice slD.1 u.done.length slD.2)) W.heap.size g s q r { u with live := L, done := u.done } slL slD x) := Lib.hid (HT1.out.one (UkAt.setD HT1.out.bk u.done slD))
     have HA2 := Lib.hid (HA1.out.trans (Abv.cell (p := ⟨g, 21, none⟩) HT1.out.hi.1 (Value.slice slD.1 u.done.length slD.2) (w := y1)))
     obtain ⟨y2, hy2⟩ : ∃ y2, y1.setCell ⟨g, 21, none⟩ (.slice slD.1 u.done.length slD.2) = y2 := ⟨_, rfl⟩
     rw [hy2] at HT2 HA2 ⊢; clear hy2 k21 f21 HT1 HA1
     have k19 := UkAt.k19 HT2.out.bk; have f19 := At.frozen HT2.out.bk 19
     go_upto_region 25 with fail
     have HT3 : Hid (TL w (y2.setCell ⟨g, 19, none⟩ (.int .i64 (u.ix + 1))) W.heap.size g s q r { u with live := L, done := u.done, ix := u.ix + 1 } slL slD x) := Lib.hid (HT2.out.one (UkAt.setI HT2.out.bk (u.ix + 1)))
     have HA3 := Lib.hid (HA2.out.trans (Abv.cell (p := ⟨g, 19, none⟩) HT2.out.hi.1 (Value.int .i64 (u.ix + 1)) (w := y2)))
     obtain ⟨y3, hy3⟩ : ∃ y3, y2.setCell ⟨g, 19, none⟩ (.int .i64 (u.ix + 1)) = y3 := ⟨_, rfl⟩
     rw [hy3] at HT3 HA3 ⊢; clear hy3 k19 f19 HT2 HA2
     have HRL := Lib.hid ((HRL0.out).abv HA3.out); have HRD := Lib.hid ((HRD0.out).abv HA3.out)
     have hcg : nextU u x = ({ u with live := L, done := u.done, ix := u.ix + 1 }, ⟨u.ix + 1, x, 0, 0⟩, 0) := HRES.out
     clear HA3
     obtain ⟨u', hu'⟩ : ∃ u' : U, { u with live := L, done := u.done, ix := u.ix + 1 } = u' := ⟨_, rfl⟩
     have hix' : u'.ix = u.ix + 1 := by rw [← hu']
     have HUA : Hid (∀ w9, Abv W.heap.size y3 w9 → UAt w9 u' slL slD) := Lib.hid (fun w9 h9 => by rw [← hu']; exact ⟨(HRL.out.abv h9).rdf, (HRD.out.abv h9).rdf⟩)
     rw [hu'] at HT3 hcg; clear hu' HRL HRD
     obtain ⟨cg, hcg2⟩ : ∃ cg : Cg, (⟨u.ix + 1, x, 0, 0⟩ : Cg) = cg := ⟨_, rfl⟩
     rw [hcg2] at hcg
     have HNX := Lib.hid hcg
     have HCG := Lib.hid hcg2; have HIX := Lib.hid hix'
     clear hcg hcg2 hix'
     refine AnyOrder.region_put 6 [u'.V slL slD, ptr g 19, .int .i64 (u.ix + 1), x.V, cg.V, undef] (fun i w1 => i = 5 → UkAt w1 q u' slL slD) (fun w1 => TL w w1 W.heap.size g s q r u' slL slD x ∧ Abv W.heap.size y3 w1) (by kernel_rfl) (by kernel_rfl) rfl ?_ ⟨HT3.out.drew, (Abv.refl W.heap.size y3).drew⟩ ?_ ?_
     ·intro i hi hd
      match i, hi with
      | 0, _ => cases hd
      | 1, _ => cases hd
      | 2, _ => cases hd
      | 3, _ => cases hd
      | 4, _ => cases hd
      | 5, _ => rfl
     ·intro i o listed a1 w2 hin ho st hl hdep
      have e2 : a1.eval (.tmp 2) = ptr g 0 := st.old hl 2 (by kernel_rfl)
      have e3 : a1.eval (.tmp 3) = ptr s 0 := st.old hl 3 (by kernel_rfl)
      have e4 : a1.eval (.tmp 4) = ptr q 0 := st.old hl 4 (by kernel_rfl)
      match i, ho with
      | 0, ho => (injection ho with ho; subst ho; exact AnyOrder.step5_value rfl (AnyOrder.wanted_none rfl) (u'.V slL slD) (run_load_uk e2 st.inv.1.bk) st.inv rfl (fun j hj => st.mark j hj) (fun h => by cases h))
      | 1, ho => (injection ho with ho; subst ho; exact AnyOrder.step5_value rfl (AnyOrder.wanted_none rfl) (ptr g 19) (by generalize a1.eval = ρ at e2 ⊢; simp [execOp, e2, go_sem]) st.inv rfl (fun j hj => st.mark j hj) (fun h => by cases h))
      | 2, ho => (injection ho with ho; subst ho; have ed : a1.eval (.tmp 90) = ptr g 19 := st.done 1 90 (hdep ⟨1, .data⟩ (by simp) rfl) rfl; exact AnyOrder.step5_value rfl (AnyOrder.wanted_none rfl) (.int .i64 (u.ix + 1)) (by have hk := UkAt.k19 st.inv.1.bk; rw [HIX.out] at hk; generalize a1.eval = ρ at ed ⊢; simp [execOp, ed, go_sem, hk]) st.inv rfl (fun j hj => st.mark j hj) (fun h => by cases h))
      | 3, ho => (injection ho with ho; subst ho; exact AnyOrder.step5_value rfl (AnyOrder.wanted_none rfl) x.V (run_load_k e3 st.inv.1.k) st.inv rfl (fun j hj => st.mark j hj) (fun h => by cases h))
      | 4, ho => (injection ho with ho; subst ho; have e91 : a1.eval (.tmp 91) = .int .i64 (u.ix + 1) := st.done 2 91 (hdep ⟨2, .data⟩ (by simp) rfl) rfl; have e92 : a1.eval (.tmp 92) = x.V := st.done 3 92 (hdep ⟨3, .data⟩ (by simp) rfl) rfl; exact AnyOrder.step5_value rfl (AnyOrder.wanted_none rfl) cg.V (by rw [← HCG.out]; exact run_build_nx e91 e92) st.inv rfl (fun j hj => st.mark j hj) (fun h => by cases h))
      | 5, ho => (injection ho with ho; subst ho; have e89 : a1.eval (.tmp 89) = u'.V slL slD := st.done 0 89 (hdep ⟨0, .data⟩ (by simp) rfl) rfl; exact AnyOrder.step5_store rfl (AnyOrder.wanted_none rfl) rfl (run_store_uk e4 e89 st.inv.1.ans.choose_spec.choose_spec.choose_spec) ⟨st.inv.1.put.1, st.inv.2.trans (Abv.row st.inv.1.hi.2.1 _)⟩ (fun j _ _ => st.inv.1.put.2))
      | n + 6, ho => exact absurd hin (by omega)
     ·intro y4 hJ4 hM4
      have HQ4 : Hid (UkAt y4 q u' slL slD) := Lib.hid (hM4 5 (by decide) rfl)
      have HR4 := Lib.hid hJ4.1.an2
      have HF := Lib.hid (hJ4.1.fin HQ4.out cg 0 (HUA.out _ (hJ4.2.trans (Abv.row hJ4.1.hi.2.2 _))))
      clear hJ4 hM4
      simp only [AnyOrder.finK, List.map_cons, List.map_nil, List.take_succ_cons, List.take_zero, List.drop_succ_cons, List.drop_zero, Act.put, List.setIfInBounds_toArray, List.set_cons_zero, List.set_cons_succ]
      go_wp2_with ((with_reducible apply wpList_store_cg (c := cg) (hq := HR4.out)); exact rfl; exact rfl; exact rfl; exact rfl)
      exact bodyPost_ret (results_u3 Tryz.results58 rfl rfl rfl HF.out.1 HF.out.2.1) rfl (by rw [HNX.out]; exact HF.out.2.2)
end Go.Proofs.YtplapoenhohliaaGreat
