import Derived.Test.YtplapoenhohliaaGreatVtH
import Derived.Lib.LazyBuf
namespace Go.Proofs.YtplapoenhohliaaGreat
open Go.RowKit Go.Lib
set_option linter.unusedVariables false
set_option linter.unusedSimpArgs false
theorem eql_nil (W : World) (a : Option Addr) (l c : Nat) : (binOp .eql 49 (.slice a l c) (.slice none 0 0)).run Tryz.prog W = .ok (.bool a.isNone) W := by
 exact run_eql_slice_nil W _ _ a l c Tryz.underlying49
set_option maxHeartbeats 800000 in
theorem upTo_any {w : World} {g : Nat} {x : Vt} {n : Int} {xs : List Cg} (hv : VtAt w g x) (hr : Sh.Rd eG w x.v xs) (hs : Rises xs) (hn : xs.length ≤ 100000) : Calls Tryz.prog 30 #[ptr g 0, .int .i64 n] w fun e w' => e = .returned (.int .i64 (upto xs n : Int)) ∧ Below w.heap.size w w' := by
 have H := Lib.hid (new2 w #[ptr g 0] #[.int .i64 n] 27 3)
 have HU := Lib.hid (show Uc ((w.alloc (.cells #[ptr g 0] 27)).alloc (.cells #[.int .i64 n] 3)) w.heap.size (w.heap.size + 1) g x n xs from ⟨H.out.2.1, H.out.2.2, At.step hv H.out.1, hr.below H.out.1⟩)
 obtain ⟨O, cap, hxv, hc, _⟩ := hr
 have CS := Lib.hid (search_any HU.out hs hn)
 obtain ⟨r, hrr⟩ : ∃ r, upto xs n = r := ⟨_, rfl⟩
 rw [hrr] at CS ⊢
 clear hv hs hn hc hrr
 go_enter Tryz.func30, Tryz.ntmps30
 go_upto_region 1 with fail
 obtain ⟨W, hW⟩ : ∃ W, (w.alloc (.cells #[ptr g 0] 27)).alloc (.cells #[.int .i64 n] 3) = W := ⟨_, rfl⟩
 rw [hW] at H HU CS ⊢; clear hW
 have HB := Lib.hid H.out.1; clear H
 generalize w.heap.size + 1 = p3 at *
 obtain ⟨p2, hp2⟩ : ∃ p2, w.heap.size = p2 := ⟨_, rfl⟩
 rw [hp2] at HU CS ⊢
 have HP := Lib.hid hp2; clear hp2
 have c2 : W.cell? ⟨p2, 0, none⟩ = some (ptr g 0) := by rw [At.cell HU.out.a2]; rfl
 have c3 : W.cell? ⟨p3, 0, none⟩ = some (.int .i64 n) := by rw [At.cell HU.out.a3]; rfl
 have k51 := VtAt.k51 HU.out.vt
 rw [hxv] at k51
 clear hxv
 generalize xs.length = M at *
 go_wp2_with (go_at_call 46; (with_reducible refine CS.out.mono ?_))
 rintro e w2 ⟨rfl, hb2⟩
 go_wp2_with fail
 go_ret
 exact ⟨rfl, by rw [← HP.out] at *; exact HB.out.trans (hb2.mono (by have := HB.out.size; rw [HP.out]; exact this))⟩
set_option maxRecDepth 100000 in
set_option maxHeartbeats 800000 in
theorem clone_any {w : World} {B : Nat} {v : Value} {xs : List Cg} (h : Sh.OwO eG w B v xs) (hn : xs.length ≤ 100000) : Calls Tryz.prog 29 #[v] w fun e w' => ∃ v', e = .returned v' ∧ Sh.Own eG w' w.heap.size v' xs ∧ Below w.heap.size w w' := by
 rcases h with ⟨rfl, rfl⟩ | ⟨g, off, cap, cur, rfl, hb, ha, hc, hm, hsz, hx⟩
 ·have hnil : ∀ W : World, (binOp .eql 49 (.slice none 0 0) (.slice none 0 0)).run Tryz.prog W = .ok (.bool true) W := fun W => eql_nil W none 0 0
  go_enter Tryz.func29, Tryz.ntmps29
  go_wp2_with fail
  go_ret
  exact ⟨_, rfl, Sh.Own.nil eG w _, Below.refl _ _⟩
 ·have hb1 := below_new w (.cells #[] 48)
  have o1 := Sh.Own.lit0 eG w (B := w.heap.size) (Nat.le_refl _)
  obtain ⟨v', w', hr, o2, c2, _⟩ := o1.join (u := .slice (some ⟨g, off, none⟩) xs.length cap) (us := xs) (by simp) (.inr ⟨g, off, cap, rfl, fun i x hi j y hy => by
   exact (At.cell (At.step ha hb1) _).trans (hx i x hi j y hy)⟩) (by simpa using (show xs.length ≤ 1000000 by omega)) 49
  rw [List.nil_append] at o2
  have HR := Lib.hid hr
  have HO := Lib.hid o2
  have HB := Lib.hid (hb1.trans (c2.below' o1 (by simp)))
  clear hr o2 c2 o1 hb1 hx ha hsz hm hb
  generalize xs.length = N at HR ⊢
  have hnil : ∀ W : World, (binOp .eql 49 (.slice (some ⟨g, off, none⟩) N cap) (.slice none 0 0)).run Tryz.prog W = .ok (.bool false) W := fun W => eql_nil W (some ⟨g, off, none⟩) N cap
  go_enter Tryz.func29, Tryz.ntmps29
  go_wp2_with (at_builtin; (refine Lib.wpList_append_run _ rfl (.tmp 5) (.tmp 6) 49 49 rfl _ _ rfl rfl v' w' HR.out ?_))
  go_ret
  exact ⟨v', rfl, HO.out, HB.out⟩
def GwAt (B : Nat) (xs : List Cg) (v : Value) (w : World) : Prop := Sh.Own eG w B v xs
theorem GwAt.keep {B : Nat} {xs : List Cg} {v : Value} {w w' : World} (h : GwAt B xs v w) (hb : Below w.heap.size w w') : GwAt B xs v w' := Sh.Own.below h hb
def since (xs : List Cg) (n : Int) : List Cg := xs.drop (upto xs n)
set_option maxRecDepth 100000 in
set_option maxHeartbeats 1600000 in
theorem since_any {w : World} {g B : Nat} {x : Vt} {n : Int} {xs : List Cg} (hv : VtAt w g x) (ho : Sh.OwO eG w B x.v xs) (hs : Rises xs) (hn : xs.length ≤ 100000) : Calls Tryz.prog 9 #[ptr g 0, .int .i64 n] w fun e w' => ∃ v', e = .returned v' ∧ Sh.Own eG w' w.heap.size v' (since xs n) ∧ Below w.heap.size w w' := by
 obtain ⟨v1, hsl, o1, _⟩ := ho.drop (upto_le xs n)
 have HSL : Hid (∀ W : World, (Instr.slice 49 x.v (some (.int .i64 (upto xs n : Int))) none none).run Tryz.prog W = .ok v1 W) := Lib.hid hsl
 have HO1 := Lib.hid o1; have HV := Lib.hid hv
 have CU := Lib.hid (fun (W : World) (hb : Below w.heap.size w W) => upTo_any (n := n) (hv.step hb) (ho.rd.below hb) hs hn)
 have HL := Lib.hid (show (xs.drop (upto xs n)).length ≤ 100000 by rw [List.length_drop]; omega)
 obtain ⟨O, cap, hxv, _⟩ := ho.form
 have HX := Lib.hid hxv
 unfold since
 obtain ⟨ys, hys⟩ : ∃ ys, xs.drop (upto xs n) = ys := ⟨_, rfl⟩
 rw [hys] at HO1 HL ⊢
 obtain ⟨m, hmm⟩ : ∃ m, upto xs n = m := ⟨_, rfl⟩
 rw [hmm] at HSL CU
 obtain ⟨v0, hv0⟩ : ∃ v0, x.v = v0 := ⟨_, rfl⟩
 rw [hv0] at HSL HX
 have HSA : Hid (∀ W : World, (Instr.sliceAt 49 v0 (some (.int .i64 (m : Int))) none none).run Tryz.prog W = .ok v1 W) := Lib.hid (fun W => by have h := HSL.out W; rw [HX.out] at h ⊢; exact h)
 have HV0 := Lib.hid hv0
 clear hsl o1 hv ho hs hn hxv hys hmm hv0
 go_enter Tryz.func9, Tryz.ntmps9
 go_upto_region 3 with fail
 refine AnyOrder.region_kinds2 9 [.eq (ptr g 0), .eq (ptr g 0), .eq (ptr g 51), .eq (v0), .eq (ptr g 0), .eq (.int .i64 n), .eq (.int .i64 (m : Int)), .eq (v1), .of (GwAt w.heap.size ys)] (fun wx => Below w.heap.size w wx) (by kernel_rfl) (by kernel_rfl) rfl (by kernel_rfl) (below_drewN (Below.refl _ _) 1) (by intro p wa wb hp hj hb v hv; simp at hp; subst hp; exact GwAt.keep hv hb) ?_ ?_
 ·intro i o listed a1 w2 hin ho st hl hdep
  match i, ho with
  | 0, ho => (injection ho with ho; subst ho; have e0 : a1.eval (.tmp 0) = ptr g 0 := st.old hl 0 (by kernel_rfl); exact AnyOrder.sv rfl rfl (ptr g 0) (AnyOrder.run_move e0) st.inv (Below.refl _ _) rfl)
  | 1, ho => (injection ho with ho; subst ho; have ec := AnyOrder.evc a1; have ef := AnyOrder.evf a1; have e0 : a1.eval (.tmp 7) = ptr g 0 := st.done 0 7 (hdep ⟨0, .data⟩ (by simp) rfl) rfl; exact AnyOrder.sv rfl rfl (ptr g 0) (by generalize a1.eval = ρ at ec ef e0 ⊢; simp [execOp, ec, ef, e0, IntWalk.i64_left, go_sem]) st.inv (Below.refl _ _) rfl)
  | 2, ho => (injection ho with ho; subst ho; have ec := AnyOrder.evc a1; have ef := AnyOrder.evf a1; have e0 : a1.eval (.tmp 8) = ptr g 0 := st.done 1 8 (hdep ⟨1, .data⟩ (by simp) rfl) rfl; exact AnyOrder.sv rfl rfl (ptr g 51) (by generalize a1.eval = ρ at ec ef e0 ⊢; simp [execOp, e0, go_sem]) st.inv (Below.refl _ _) rfl)
  | 3, ho => (injection ho with ho; subst ho; have ec := AnyOrder.evc a1; have ef := AnyOrder.evf a1; have e0 : a1.eval (.tmp 9) = ptr g 51 := st.done 2 9 (hdep ⟨2, .data⟩ (by simp) rfl) rfl; exact AnyOrder.sv rfl rfl (v0) (by have hk := VtAt.k51 (HV.out.step st.inv); rw [HV0.out] at hk; have hx := HX.out; subst hx; generalize a1.eval = ρ at ec ef e0 ⊢; simp [execOp, e0, go_sem, hk]) st.inv (Below.refl _ _) rfl)
  | 4, ho => (injection ho with ho; subst ho; have e0 : a1.eval (.tmp 0) = ptr g 0 := st.old hl 0 (by kernel_rfl); exact AnyOrder.sv rfl rfl (ptr g 0) (AnyOrder.run_move e0) st.inv (Below.refl _ _) rfl)
  | 5, ho => (injection ho with ho; subst ho; have e0 : a1.eval (.tmp 1) = .int .i64 n := st.old hl 1 (by kernel_rfl); exact AnyOrder.sv rfl rfl (.int .i64 n) (AnyOrder.run_move e0) st.inv (Below.refl _ _) rfl)
  | 6, ho => (injection ho with ho; subst ho; have ec := AnyOrder.evc a1; have ef := AnyOrder.evf a1; have e0 : a1.eval (.tmp 11) = ptr g 0 := st.done 4 11 (hdep ⟨4, .data⟩ (by simp) rfl) rfl; have e1 : a1.eval (.tmp 12) = .int .i64 n := st.done 5 12 (hdep ⟨5, .data⟩ (by simp) rfl) rfl; exact AnyOrder.step_call rfl (AnyOrder.wanted_none rfl) 30 #[ptr g 0, .int .i64 n] (by generalize a1.eval = ρ at ec ef e0 e1 ⊢; simp [execOp, ec, ef, e0, e1, go_sem]) (((CU.out w2 st.inv)).mono (fun e w3 h => by obtain ⟨rfl, hb⟩ := h; exact ⟨_, rfl, st.inv.trans (hb.mono st.inv.size), hb, rfl⟩)))
  | 7, ho => (injection ho with ho; subst ho; have ec := AnyOrder.evc a1; have ef := AnyOrder.evf a1; have e0 : a1.eval (.tmp 10) = v0 := st.done 3 10 (hdep ⟨3, .data⟩ (by simp) rfl) rfl; have e1 : a1.eval (.tmp 13) = .int .i64 (m : Int) := st.done 6 13 (hdep ⟨6, .data⟩ (by simp) rfl) rfl; exact AnyOrder.sv rfl rfl (v1) (by have hk := HSA.out w2; generalize a1.eval = ρ at ec ef e0 e1 ⊢; simp [execOp, e0, e1, hk]) st.inv (Below.refl _ _) rfl)
  | 8, ho => (injection ho with ho; subst ho; have ec := AnyOrder.evc a1; have ef := AnyOrder.evf a1; have e0 : a1.eval (.tmp 14) = v1 := st.done 7 14 (hdep ⟨7, .data⟩ (by simp) rfl) rfl; exact AnyOrder.step_call rfl (AnyOrder.wanted_none rfl) 29 #[v1] (by generalize a1.eval = ρ at ec ef e0 ⊢; simp [execOp, ec, ef, e0, go_sem]) ((clone_any (HO1.out.below st.inv) HL.out).mono (fun e w4 h => by obtain ⟨v5, rfl, h1, hb⟩ := h; exact ⟨_, rfl, st.inv.trans (hb.mono st.inv.size), hb, h1.mono st.inv.size⟩)))
  | n + 9, ho => exact absurd hin (by omega)
 ·intro w3 hJ3
  simp only [AnyOrder.finK, List.take_succ_cons, List.take_zero, List.drop_succ_cons, List.drop_zero, Act.put, List.setIfInBounds_toArray, List.set_cons_zero, List.set_cons_succ]
  intro v8 h8
  go_wp2_with fail
  go_ret
  exact ⟨_, rfl, h8, hJ3⟩
set_option maxRecDepth 100000 in
set_option maxHeartbeats 1600000 in
theorem forget_any {w : World} {g B : Nat} {x : Vt} {n : Int} {xs : List Cg} (hv : VtAt w g x) (ho : Sh.OwO eG w B x.v xs) (hs : Rises xs) (hn : xs.length ≤ 100000) : Calls Tryz.prog 10 #[ptr g 0, .int .i64 n] w fun e w' => ∃ v', e = .returned (.int .i64 (upto xs n : Int)) ∧ VtAt w' g { x with v := v' } ∧ Sh.OwO eG w' B v' (since xs n) ∧ Chg w w' (fun j => j = g) ∧ v'.ownBlock = x.v.ownBlock := by
 have CU := Lib.hid (upTo_any (n := n) hv ho.rd hs hn)
 have HOO := Lib.hid ho; have HV := Lib.hid hv
 have hle := upto_le xs n
 clear hv ho hs hn
 unfold since
 obtain ⟨m, hmm⟩ : ∃ m, upto xs n = m := ⟨_, rfl⟩
 rw [hmm] at CU hle ⊢
 have HLE := Lib.hid hle
 clear hmm hle
 go_enter Tryz.func10, Tryz.ntmps10
 go_upto_region 4 with (go_at_call 30; (with_reducible refine CU.out.mono ?_); rintro e w1 ⟨rfl, hb1⟩)
 have hv1 := HV.out.step hb1
 have ho1 := HOO.out.below hb1
 obtain ⟨v1, hsl, o1, ob⟩ := ho1.drop HLE.out
 obtain ⟨O, cap, hxv, _⟩ := ho1.form
 obtain ⟨O1, cap1, e1, _⟩ := o1.form
 subst e1
 have k51 := VtAt.k51 hv1
 have f51 := At.frozen hv1 51
 rw [hxv] at k51 hsl
 have hs1 : (Instr.slice 49 (.slice O xs.length cap) (some (.int .i64 (m : Int))) none none).run Tryz.prog w1 = .ok (.slice O1 (xs.drop m).length cap1) w1 := hsl w1
 have HV2 := Lib.hid (VtAt.setV hv1 (.slice O1 (xs.drop m).length cap1))
 have HC2 := Lib.hid ((Chg.ofBelow hb1 (fun j => j = g)).trans (chg_setCell w1 g 51 (.slice O1 (xs.drop m).length cap1)) (fun _ _ h => h))
 have HO2 := Lib.hid (o1.chg (chg_setCell w1 g 51 (.slice O1 (xs.drop m).length cap1)) (fun j hj e => o1.ty hv1 (show eG.e ≠ _ from by decide) ((show j = g from e) ▸ hj)))
 have HOB := Lib.hid ob
 clear hsl o1 ob ho1 hv1 hb1 HOO HV CU HLE hxv
 generalize (xs.drop m).length = N1 at *
 generalize xs.length = N0 at *
 go_wp2_with fail
 go_ret
 exact ⟨_, rfl, HV2.out, HO2.out, HC2.out, HOB.out⟩
end Go.Proofs.YtplapoenhohliaaGreat
