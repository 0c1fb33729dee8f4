import Derived.Test.YtplapoenhohliaaGreatVtE
import Derived.Test.YtplapoenhohliaaGreatOrder7
import Derived.Deep.RegionLaw
namespace Go.Proofs.YtplapoenhohliaaGreat
open Go.RowKit Go.Lib
set_option linter.unusedVariables false
set_option linter.unusedSimpArgs false
theorem step_append_run {P : Program} {ops : Array Oper} {o : Oper} {a : Go.Act} {w : World} {K : Go.Act → World → Prop} {Q : Exit → Go.Act → World → Prop} {E : Prop} (hgd : o.guard = none) (s x : Operand) (t tn : TypeId)
  (ho : o.op = .call { callee := .builtin .append, args := #[s, x], argTypes := #[t, tn] }) (vs vx : Value) (hs : a.eval s = vs) (hx : a.eval x = vx) (v' : Value) (w' : World) (hr : (Builtin.append_ #[t, tn] o.type #[vs, vx]).run P w = .ok v' w')
  (h : K (a.put o.dst v') w') : if Region.wanted o (yielded ops a.tmps) = true then Oper.wp P o a w K Q else E := by
 have hw : Region.wanted o (yielded ops a.tmps) = true := by simp [Region.wanted, hgd]
 rw [if_pos hw]
 unfold Oper.wp execOp
 simp only [ho, resolve, invoke, builtin, Sem.run_bind, Sem.run_pure, Result.andThen_ok, List.map_toArray, List.map_cons, List.map_nil, hs, hx, hr]
 exact h
structure Cm (w W : World) (S : Nat → Prop) (g qs qb qc qk : Nat) (x : Vt) (s : Sp) (b : Bk) (o p : Option Addr) (ch : Cg) (k : Yk) : Prop where
 chg : Chg w W S
 hS : S g
 vt : VtAt W g x
 sp : SpAt W qs s
 bk : BkAt W qb b o p
 cg : CgAt W qc ch
 yk : YkAt W qk k
 lo : w.heap.size ≤ qc
section
variable {w W W' : World} {S : Nat → Prop} {g qs qb qc qk : Nat} {x x' : Vt} {s : Sp} {b : Bk} {o p : Option Addr} {ch : Cg} {k : Yk}
theorem Cm.new (h : VtAt w g x) (hS : S g) (s : Sp) (b : Bk) (o p : Option Addr) (ch : Cg) (k : Yk) : Cm w ((((w.alloc (.cells s.cells 44)).alloc (.cells (b.cells o p) 37)).alloc (.cells ch.cells 48)).alloc (.cells k.cs 42)) S g w.heap.size (w.heap.size + 1) (w.heap.size + 1 + 1) (w.heap.size + 1 + 1 + 1) x s b o p ch k := by
 obtain ⟨h1, h2, h3, h4, h5⟩ := new4 w s.cells (b.cells o p) ch.cells k.cs 44 37 48 42
 exact ⟨Chg.ofBelow h1 S, hS, At.step h h1, h2, h3, h4, h5, by omega⟩
theorem Cm.step (h : Cm w W S g qs qb qc qk x s b o p ch k) (hb : Below W.heap.size W W') : Cm w W' S g qs qb qc qk x s b o p ch k :=
 ⟨h.chg.trans (Chg.ofBelow hb (fun _ => False)) (fun _ _ h => h.elim), h.hS, h.vt.step hb, h.sp.step hb, h.bk.step hb, h.cg.step hb, h.yk.step hb, h.lo⟩
theorem Cm.put (h : Cm w W S g qs qb qc qk x s b o p ch k) (hc : Chg W W' (fun j => j = g)) (hv : VtAt W' g x') : Cm w W' S g qs qb qc qk x' s b o p ch k :=
 ⟨h.chg.trans hc (fun _ _ e => by have e : _ = g := e; subst e; exact h.hS), h.hS, hv, At.chg h.sp hc (At.ne h.sp h.vt (by decide)), At.chg h.bk hc (At.ne h.bk h.vt (by decide)), At.chg h.cg hc (At.ne h.cg h.vt (by decide)), At.chg h.yk hc (At.ne h.yk h.vt (by decide)), h.lo⟩
end
theorem vtOff {w : World} {g B : Nat} {x : Vt} {xs : List Cg} (hv : VtAt w g x) (ho : Sh.OwO eG w B x.v xs) : Sh.Off w (fun j => j = g ∨ x.v.ownBlock = some j) := fun k hk ds => by
 rcases hk with hk | hk
 ·exact Off.one hv (by decide) (by decide) k hk ds
 ·exact ⟨fun h => ho.ty h (show eG.e ≠ _ from by decide) hk, fun h => ho.ty h (show eG.e ≠ _ from by decide) hk⟩
set_option maxRecDepth 100000 in
set_option maxHeartbeats 800000 in
theorem commit_nil (s : Sp) (b : Bk) (o p : Option Addr) (ch : Cg) (k : Yk) (w : World) : Calls Tryz.prog 7 #[.pointer none, s.V, b.V o p, ch.V, k.V] w fun e w' => e = .returned (.int .i64 2) ∧ Below w.heap.size w w' := by
 have H := Lib.hid (new4 w s.cells (b.cells o p) ch.cells k.cs 44 37 48 42).1
 go_enter Tryz.func7, Tryz.ntmps7
 go_wp2_with fail
 go_ret
 exact ⟨rfl, H.out⟩
set_option maxRecDepth 100000 in
set_option maxHeartbeats 3200000 in
theorem commit_stale {x : Vt} {s : Sp} {b : Bk} {o p : Option Addr} {ch : Cg} {k : Yk} {g : Nat} {w : World} (hv : VtAt w g x) (hi : s.b.ix ≠ x.s.b.ix) (hn : 0 ≤ x.n ∧ x.n < 100000) (hm : 0 ≤ x.m ∧ x.m < 100000) : Calls Tryz.prog 7 #[ptr g 0, s.V, b.V o p, ch.V, k.V] w fun e w' => e = .returned (.int .i64 9) ∧ VtAt w' g { x with n := x.n + 1, m := x.m + 1 } ∧ Chg w w' (fun j => j = g) := by
 have HM := Lib.hid (Cm.new (S := fun j => j = g) hv rfl s b o p ch k)
 have hw1 : IntKind.i64.wrap (x.n + 1) = x.n + 1 := IntWalk.i64_in _ (by omega)
 have hw2 : IntKind.i64.wrap (x.m + 1) = x.m + 1 := IntWalk.i64_in _ (by omega)
 have hne : (s.b.ix != x.s.b.ix) = true := by simpa using hi
 clear hi hn hm
 clear hv
 go_enter Tryz.func7, Tryz.ntmps7
 go_upto_region 1 with fail
 obtain ⟨W, hW⟩ : ∃ W, ((((w.alloc (.cells s.cells 44)).alloc (.cells (b.cells o p) 37)).alloc (.cells ch.cells 48)).alloc (.cells k.cs 42)) = W := ⟨_, rfl⟩
 rw [hW] at HM ⊢; clear hW
 generalize w.heap.size + 1 + 1 + 1 = qk at HM ⊢
 generalize w.heap.size + 1 + 1 = qc at HM ⊢
 generalize w.heap.size + 1 = qb at HM ⊢
 obtain ⟨qs, hqs⟩ : ∃ qs, w.heap.size = qs := ⟨_, rfl⟩
 rw [hqs] at HM ⊢
 have k52 := VtAt.k52 HM.out.vt
 have f52 := At.frozen HM.out.vt 52
 have c52 := Lib.hid (chg_setCell W g 52 (.int .i64 (x.n + 1)))
 have t52 := Lib.hid (VtAt.setN HM.out.vt (x.n + 1))
 go_upto_region 4 with fail
 have HM2 := Lib.hid (HM.out.put c52.out t52.out)
 clear k52 f52 c52 t52 HM
 obtain ⟨W2, hW2⟩ : ∃ W2, W.setCell ⟨g, 52, none⟩ (.int .i64 (x.n + 1)) = W2 := ⟨_, rfl⟩
 rw [hW2] at HM2 ⊢; clear hW2
 refine AnyOrder.region_kinds2 10 [.eq (ptr qs 0), .eq (s.b.V s.o s.p), .eq (.int .i64 s.b.ix), .eq (ptr g 0), .eq (ptr g 0), .eq (ptr g 0), .eq (ptr g 0), .eq (x.s.b.V x.s.o x.s.p), .eq (.int .i64 x.s.b.ix), .eq (.bool true)] (fun wx => Below W2.heap.size W2 wx) (by kernel_rfl) (by kernel_rfl) rfl (by kernel_rfl) (below_drewN (Below.refl _ _) 1) (fun p _ _ hp => by simp at hp) ?_ ?_
 ·intro i o listed a1 w2 hin ho st hl hdep
  match i, ho with
  | 0, ho => (injection ho with ho; subst ho; have ec := AnyOrder.evc a1; have ef := AnyOrder.evf a1; have e0 : a1.eval (.tmp 6) = ptr qs 0 := st.old hl 6 (by kernel_rfl); exact AnyOrder.sv rfl rfl (ptr qs 0) (by generalize a1.eval = ρ at ec ef e0 ⊢; simp [execOp, ec, ef, e0, IntWalk.i64_left, go_sem]) st.inv (Below.refl _ _) rfl)
  | 1, ho => (injection ho with ho; subst ho; have e0 : a1.eval (.tmp 20) = ptr qs 0 := st.done 0 20 (hdep ⟨0, .data⟩ (by simp) rfl) rfl; exact AnyOrder.sv rfl rfl (s.b.V s.o s.p) (run_load_bkm e0 (Sp.bk (SpAt.rng (At.step HM2.out.sp st.inv)))) st.inv (Below.refl _ _) rfl)
  | 2, ho => (injection ho with ho; subst ho; have ec := AnyOrder.evc a1; have ef := AnyOrder.evf a1; have e0 : a1.eval (.tmp 21) = s.b.V s.o s.p := st.done 1 21 (hdep ⟨1, .data⟩ (by simp) rfl) rfl; exact AnyOrder.step_call rfl (AnyOrder.wanted_none rfl) 20 #[s.b.V s.o s.p] (by generalize a1.eval = ρ at ec ef e0 ⊢; simp [execOp, ec, ef, e0, go_sem]) (((index_any s.b s.o s.p w2)).mono (fun e w3 h => by obtain ⟨rfl, hb⟩ := h; exact ⟨_, rfl, st.inv.trans (hb.mono st.inv.size), hb, rfl⟩)))
  | 3, ho => (injection ho with ho; subst ho; have e0 : a1.eval (.tmp 0) = ptr g 0 := st.old hl 0 (by kernel_rfl); exact AnyOrder.sv rfl rfl (ptr g 0) (AnyOrder.run_move e0) st.inv (Below.refl _ _) rfl)
  | 4, ho => (injection ho with ho; subst ho; have ec := AnyOrder.evc a1; have ef := AnyOrder.evf a1; have e0 : a1.eval (.tmp 23) = ptr g 0 := st.done 3 23 (hdep ⟨3, .data⟩ (by simp) rfl) rfl; exact AnyOrder.sv rfl rfl (ptr g 0) (by generalize a1.eval = ρ at ec ef e0 ⊢; simp [execOp, ec, ef, e0, IntWalk.i64_left, go_sem]) st.inv (Below.refl _ _) rfl)
  | 5, ho => (injection ho with ho; subst ho; have ec := AnyOrder.evc a1; have ef := AnyOrder.evf a1; have e0 : a1.eval (.tmp 24) = ptr g 0 := st.done 4 24 (hdep ⟨4, .data⟩ (by simp) rfl) rfl; exact AnyOrder.sv rfl rfl (ptr g 0) (by generalize a1.eval = ρ at ec ef e0 ⊢; simp [execOp, ec, ef, e0, IntWalk.i64_left, go_sem]) st.inv (Below.refl _ _) rfl)
  | 6, ho => (injection ho with ho; subst ho; have ec := AnyOrder.evc a1; have ef := AnyOrder.evf a1; have e0 : a1.eval (.tmp 25) = ptr g 0 := st.done 5 25 (hdep ⟨5, .data⟩ (by simp) rfl) rfl; exact AnyOrder.sv rfl rfl (ptr g 0) (by generalize a1.eval = ρ at ec ef e0 ⊢; simp [execOp, ec, ef, e0, IntWalk.i64_left, go_sem]) st.inv (Below.refl _ _) rfl)
  | 7, ho => (injection ho with ho; subst ho; have e0 : a1.eval (.tmp 26) = ptr g 0 := st.done 6 26 (hdep ⟨6, .data⟩ (by simp) rfl) rfl; exact AnyOrder.sv rfl rfl (x.s.b.V x.s.o x.s.p) (run_load_bkm e0 (Sp.bk (s := x.s) (VtAt.rng (x := { x with n := x.n + 1 }) (At.step HM2.out.vt st.inv)))) st.inv (Below.refl _ _) rfl)
  | 8, ho => (injection ho with ho; subst ho; have ec := AnyOrder.evc a1; have ef := AnyOrder.evf a1; have e0 : a1.eval (.tmp 27) = x.s.b.V x.s.o x.s.p := st.done 7 27 (hdep ⟨7, .data⟩ (by simp) rfl) rfl; exact AnyOrder.step_call rfl (AnyOrder.wanted_none rfl) 20 #[x.s.b.V x.s.o x.s.p] (by generalize a1.eval = ρ at ec ef e0 ⊢; simp [execOp, ec, ef, e0, go_sem]) (((index_any x.s.b x.s.o x.s.p w2)).mono (fun e w3 h => by obtain ⟨rfl, hb⟩ := h; exact ⟨_, rfl, st.inv.trans (hb.mono st.inv.size), hb, rfl⟩)))
  | 9, ho => (injection ho with ho; subst ho; have ec := AnyOrder.evc a1; have ef := AnyOrder.evf a1; have e0 : a1.eval (.tmp 22) = .int .i64 s.b.ix := st.done 2 22 (hdep ⟨2, .data⟩ (by simp) rfl) rfl; have e1 : a1.eval (.tmp 28) = .int .i64 x.s.b.ix := st.done 8 28 (hdep ⟨8, .data⟩ (by simp) rfl) rfl; exact AnyOrder.sv rfl rfl (.bool true) (by generalize a1.eval = ρ at ec ef e0 e1 ⊢; simp [execOp, e0, e1, go_sem, hne]) st.inv (Below.refl _ _) rfl)
  | n + 10, ho => exact absurd hin (by omega)
 ·intro w3 hJ3
  simp only [AnyOrder.finK, List.take_succ_cons, List.take_zero, List.drop_succ_cons, List.drop_zero, Act.put, List.setIfInBounds_toArray, List.set_cons_zero, List.set_cons_succ]
  have HM3 := Lib.hid (HM2.out.step hJ3)
  clear HM2 hJ3
  have k53 := VtAt.k53 HM3.out.vt
  have f53 := At.frozen HM3.out.vt 53
  have c53 := Lib.hid (chg_setCell w3 g 53 (.int .i64 (x.m + 1)))
  have t53 := Lib.hid (VtAt.setM HM3.out.vt (x.m + 1))
  have HF := Lib.hid (HM3.out.put c53.out t53.out)
  go_wp2_with fail
  go_ret
  exact ⟨rfl, HF.out.vt, HF.out.chg⟩
set_option maxRecDepth 100000 in
set_option maxHeartbeats 3200000 in
theorem commit_arg {x : Vt} {s : Sp} {b : Bk} {o p : Option Addr} {ch : Cg} {k : Yk} {g : Nat} {w : World} (hv : VtAt w g x) (hi : s.b.ix = x.s.b.ix) (hn : 0 ≤ x.n ∧ x.n < 100000) (ha : BAt w x.s.b x.s.o x.s.p) (hL : ∀ W, VtAt W g { x with n := x.n + 1 } → BAt W x.s.b x.s.o x.s.p → Calls Tryz.prog 28 #[ptr g 0, ch.V, b.V o p] W (Yes W false)) : Calls Tryz.prog 7 #[ptr g 0, s.V, b.V o p, ch.V, k.V] w fun e w' => e = .returned (.int .i64 1) ∧ VtAt w' g { x with n := x.n + 1 } ∧ Chg w w' (fun j => j = g) := by
 have HM := Lib.hid (Cm.new (S := fun j => j = g) hv rfl s b o p ch k)
 have hw1 : IntKind.i64.wrap (x.n + 1) = x.n + 1 := IntWalk.i64_in _ (by omega)
 have hne : (s.b.ix != x.s.b.ix) = false := by simpa using hi
 have HOFF := Lib.hid (Off.one hv (by decide) (by decide))
 clear hi hn
 clear hv
 go_enter Tryz.func7, Tryz.ntmps7
 go_upto_region 1 with fail
 obtain ⟨W, hW⟩ : ∃ W, ((((w.alloc (.cells s.cells 44)).alloc (.cells (b.cells o p) 37)).alloc (.cells ch.cells 48)).alloc (.cells k.cs 42)) = W := ⟨_, rfl⟩
 rw [hW] at HM ⊢; clear hW
 generalize w.heap.size + 1 + 1 + 1 = qk at HM ⊢
 generalize w.heap.size + 1 + 1 = qc at HM ⊢
 generalize w.heap.size + 1 = qb at HM ⊢
 obtain ⟨qs, hqs⟩ : ∃ qs, w.heap.size = qs := ⟨_, rfl⟩
 rw [hqs] at HM ⊢
 have k52 := VtAt.k52 HM.out.vt
 have f52 := At.frozen HM.out.vt 52
 have c52 := Lib.hid (chg_setCell W g 52 (.int .i64 (x.n + 1)))
 have t52 := Lib.hid (VtAt.setN HM.out.vt (x.n + 1))
 go_upto_region 4 with fail
 have HM2 := Lib.hid (HM.out.put c52.out t52.out)
 clear k52 f52 c52 t52 HM
 obtain ⟨W2, hW2⟩ : ∃ W2, W.setCell ⟨g, 52, none⟩ (.int .i64 (x.n + 1)) = W2 := ⟨_, rfl⟩
 rw [hW2] at HM2 ⊢; clear hW2
 refine AnyOrder.region_kinds2 10 [.eq (ptr qs 0), .eq (s.b.V s.o s.p), .eq (.int .i64 s.b.ix), .eq (ptr g 0), .eq (ptr g 0), .eq (ptr g 0), .eq (ptr g 0), .eq (x.s.b.V x.s.o x.s.p), .eq (.int .i64 x.s.b.ix), .eq (.bool false)] (fun wx => Below W2.heap.size W2 wx) (by kernel_rfl) (by kernel_rfl) rfl (by kernel_rfl) (below_drewN (Below.refl _ _) 1) (fun p _ _ hp => by simp at hp) ?_ ?_
 ·intro i o listed a1 w2 hin ho st hl hdep
  match i, ho with
  | 0, ho => (injection ho with ho; subst ho; have ec := AnyOrder.evc a1; have ef := AnyOrder.evf a1; have e0 : a1.eval (.tmp 6) = ptr qs 0 := st.old hl 6 (by kernel_rfl); exact AnyOrder.sv rfl rfl (ptr qs 0) (by generalize a1.eval = ρ at ec ef e0 ⊢; simp [execOp, ec, ef, e0, IntWalk.i64_left, go_sem]) st.inv (Below.refl _ _) rfl)
  | 1, ho => (injection ho with ho; subst ho; have e0 : a1.eval (.tmp 20) = ptr qs 0 := st.done 0 20 (hdep ⟨0, .data⟩ (by simp) rfl) rfl; exact AnyOrder.sv rfl rfl (s.b.V s.o s.p) (run_load_bkm e0 (Sp.bk (SpAt.rng (At.step HM2.out.sp st.inv)))) st.inv (Below.refl _ _) rfl)
  | 2, ho => (injection ho with ho; subst ho; have ec := AnyOrder.evc a1; have ef := AnyOrder.evf a1; have e0 : a1.eval (.tmp 21) = s.b.V s.o s.p := st.done 1 21 (hdep ⟨1, .data⟩ (by simp) rfl) rfl; exact AnyOrder.step_call rfl (AnyOrder.wanted_none rfl) 20 #[s.b.V s.o s.p] (by generalize a1.eval = ρ at ec ef e0 ⊢; simp [execOp, ec, ef, e0, go_sem]) (((index_any s.b s.o s.p w2)).mono (fun e w3 h => by obtain ⟨rfl, hb⟩ := h; exact ⟨_, rfl, st.inv.trans (hb.mono st.inv.size), hb, rfl⟩)))
  | 3, ho => (injection ho with ho; subst ho; have e0 : a1.eval (.tmp 0) = ptr g 0 := st.old hl 0 (by kernel_rfl); exact AnyOrder.sv rfl rfl (ptr g 0) (AnyOrder.run_move e0) st.inv (Below.refl _ _) rfl)
  | 4, ho => (injection ho with ho; subst ho; have ec := AnyOrder.evc a1; have ef := AnyOrder.evf a1; have e0 : a1.eval (.tmp 23) = ptr g 0 := st.done 3 23 (hdep ⟨3, .data⟩ (by simp) rfl) rfl; exact AnyOrder.sv rfl rfl (ptr g 0) (by generalize a1.eval = ρ at ec ef e0 ⊢; simp [execOp, ec, ef, e0, IntWalk.i64_left, go_sem]) st.inv (Below.refl _ _) rfl)
  | 5, ho => (injection ho with ho; subst ho; have ec := AnyOrder.evc a1; have ef := AnyOrder.evf a1; have e0 : a1.eval (.tmp 24) = ptr g 0 := st.done 4 24 (hdep ⟨4, .data⟩ (by simp) rfl) rfl; exact AnyOrder.sv rfl rfl (ptr g 0) (by generalize a1.eval = ρ at ec ef e0 ⊢; simp [execOp, ec, ef, e0, IntWalk.i64_left, go_sem]) st.inv (Below.refl _ _) rfl)
  | 6, ho => (injection ho with ho; subst ho; have ec := AnyOrder.evc a1; have ef := AnyOrder.evf a1; have e0 : a1.eval (.tmp 25) = ptr g 0 := st.done 5 25 (hdep ⟨5, .data⟩ (by simp) rfl) rfl; exact AnyOrder.sv rfl rfl (ptr g 0) (by generalize a1.eval = ρ at ec ef e0 ⊢; simp [execOp, ec, ef, e0, IntWalk.i64_left, go_sem]) st.inv (Below.refl _ _) rfl)
  | 7, ho => (injection ho with ho; subst ho; have e0 : a1.eval (.tmp 26) = ptr g 0 := st.done 6 26 (hdep ⟨6, .data⟩ (by simp) rfl) rfl; exact AnyOrder.sv rfl rfl (x.s.b.V x.s.o x.s.p) (run_load_bkm e0 (Sp.bk (s := x.s) (VtAt.rng (x := { x with n := x.n + 1 }) (At.step HM2.out.vt st.inv)))) st.inv (Below.refl _ _) rfl)
  | 8, ho => (injection ho with ho; subst ho; have ec := AnyOrder.evc a1; have ef := AnyOrder.evf a1; have e0 : a1.eval (.tmp 27) = x.s.b.V x.s.o x.s.p := st.done 7 27 (hdep ⟨7, .data⟩ (by simp) rfl) rfl; exact AnyOrder.step_call rfl (AnyOrder.wanted_none rfl) 20 #[x.s.b.V x.s.o x.s.p] (by generalize a1.eval = ρ at ec ef e0 ⊢; simp [execOp, ec, ef, e0, go_sem]) (((index_any x.s.b x.s.o x.s.p w2)).mono (fun e w3 h => by obtain ⟨rfl, hb⟩ := h; exact ⟨_, rfl, st.inv.trans (hb.mono st.inv.size), hb, rfl⟩)))
  | 9, ho => (injection ho with ho; subst ho; have ec := AnyOrder.evc a1; have ef := AnyOrder.evf a1; have e0 : a1.eval (.tmp 22) = .int .i64 s.b.ix := st.done 2 22 (hdep ⟨2, .data⟩ (by simp) rfl) rfl; have e1 : a1.eval (.tmp 28) = .int .i64 x.s.b.ix := st.done 8 28 (hdep ⟨8, .data⟩ (by simp) rfl) rfl; exact AnyOrder.sv rfl rfl (.bool false) (by generalize a1.eval = ρ at ec ef e0 e1 ⊢; simp [execOp, e0, e1, go_sem, hne]) st.inv (Below.refl _ _) rfl)
  | n + 10, ho => exact absurd hin (by omega)
 ·intro w3 hJ3
  simp only [AnyOrder.finK, List.take_succ_cons, List.take_zero, List.drop_succ_cons, List.drop_zero, Act.put, List.setIfInBounds_toArray, List.set_cons_zero, List.set_cons_succ]
  have HM3 := Lib.hid (HM2.out.step hJ3)
  clear HM2 hJ3
  have HA3 : Hid (BAt w3 x.s.b x.s.o x.s.p) := Lib.hid (ha.chg HM3.out.chg HOFF.out)
  have HL := Lib.hid (hL w3 HM3.out.vt HA3.out)
  clear hL ha HA3 HOFF
  go_upto_region 7 with fail
  go_wp2_with (first | ((with_reducible apply wpList_load_cg (h := HM3.out.cg)); exact rfl; exact rfl; exact rfl) | ((with_reducible apply wpList_load_bk (h := HM3.out.bk)); exact rfl; exact rfl; exact rfl) | (go_at_call 28; (with_reducible refine HL.out.mono ?_)))
  rintro e4 w4 ⟨rfl, hb4⟩
  have HM4 := Lib.hid (HM3.out.step hb4)
  clear HM3 hb4 HL
  go_wp2_with fail
  go_ret
  exact ⟨rfl, HM4.out.vt, HM4.out.chg⟩
end Go.Proofs.YtplapoenhohliaaGreat
namespace Go.Proofs.YtplapoenhohliaaGreat
open Go.RowKit Go.Lib
set_option linter.unusedVariables false
set_option linter.unusedSimpArgs false
theorem eq_rng {w : World} {g off : Nat} {a b : List Value} (hl : a.length = b.length) (ha : w.rangeAt g off a) (hb : w.rangeAt g off b) : a = b := by
 apply List.ext_getElem? 
 intro j
 by_cases hj : j < a.length
 ·have h1 := ha j _ (List.getElem?_eq_getElem hj)
  have h2 := hb j _ (List.getElem?_eq_getElem (show j < b.length by omega))
  rw [h1] at h2
  rw [List.getElem?_eq_getElem hj, List.getElem?_eq_getElem (show j < b.length by omega), h2]
 ·rw [List.getElem?_eq_none (by omega), List.getElem?_eq_none (by omega)]
theorem vt_norm {w : World} {g : Nat} {y : Vt} {b : Bk} {o p : Option Addr} {k : Yk} (h : VtAt w g y) (h1 : w.rangeAt g 0 (b.cells o p).toList) (h2 : w.rangeAt g 29 k.cs.toList) : VtAt w g ⟨⟨b, o, p, k, y.s.t⟩, y.v, y.n, y.m⟩ := by
 have e1 := eq_rng (by rw [Array.length_toList, Array.length_toList, b.size, y.s.b.size]) h1 (Sp.bk (VtAt.rng h))
 have k2 := Sp.ky (VtAt.rng h)
 rw [Nat.zero_add] at k2
 have e2 := eq_rng (by rw [Array.length_toList, Array.length_toList, k.sz, y.s.k.sz]) h2 k2
 have h3 := h
 simp only [VtAt, Vt.cells, Vt.list, Sp.list] at h3 ⊢
 rw [e1, e2]
 exact h3
set_option maxRecDepth 100000 in
set_option maxHeartbeats 3200000 in
theorem commit_ok {x : Vt} {s : Sp} {b : Bk} {o p : Option Addr} {ch : Cg} {k : Yk} {g B : Nat} {xs : List Cg} {w : World} (hv : VtAt w g x) (hi : s.b.ix = x.s.b.ix) (hn : 0 ≤ x.n ∧ x.n < 100000) (ha : BAt w x.s.b x.s.o x.s.p) (hb : BAt w b o p) (ho : Sh.OwO eG w B x.v xs) (hB : B ≤ w.heap.size) (hl : xs.length ≤ 1000) (hL : ∀ W, VtAt W g { x with n := x.n + 1 } → BAt W x.s.b x.s.o x.s.p → BAt W b o p → Calls Tryz.prog 28 #[ptr g 0, ch.V, b.V o p] W (Yes W true)) : Calls Tryz.prog 7 #[ptr g 0, s.V, b.V o p, ch.V, k.V] w fun e w' => ∃ v', e = .returned (.int .i64 0) ∧ VtAt w' g ⟨⟨b, o, p, k, x.s.t⟩, v', x.n + 1, x.m⟩ ∧ Sh.OwO eG w' B v' (xs ++ [ch]) ∧ Chg w w' (fun j => j = g ∨ x.v.ownBlock = some j) ∧ Lies w x.v v' := by
 have HM := Lib.hid (Cm.new (S := fun j => j = g) hv rfl s b o p ch k)
 have hw1 : IntKind.i64.wrap (x.n + 1) = x.n + 1 := IntWalk.i64_in _ (by omega)
 have hne : (s.b.ix != x.s.b.ix) = false := by simpa using hi
 have HOFF := Lib.hid (Off.one hv (by decide) (by decide))
 have HO := Lib.hid ho; have HLB := Lib.hid hB; have HLN := Lib.hid hl
 have HOG := Lib.hid (show ∀ j, x.v.ownBlock = some j → ¬ j = g from fun j hj e => ho.ty hv (show eG.e ≠ _ from by decide) (e ▸ hj))
 clear hi hn ho hB hl
 clear hv
 go_enter Tryz.func7, Tryz.ntmps7
 go_upto_region 1 with fail
 obtain ⟨W, hW⟩ : ∃ W, ((((w.alloc (.cells s.cells 44)).alloc (.cells (b.cells o p) 37)).alloc (.cells ch.cells 48)).alloc (.cells k.cs 42)) = W := ⟨_, rfl⟩
 rw [hW] at HM ⊢; clear hW
 generalize w.heap.size + 1 + 1 + 1 = qk at HM ⊢
 generalize w.heap.size + 1 + 1 = qc at HM ⊢
 generalize w.heap.size + 1 = qb at HM ⊢
 obtain ⟨qs, hqs⟩ : ∃ qs, w.heap.size = qs := ⟨_, rfl⟩
 rw [hqs] at HM ⊢
 have k52 := VtAt.k52 HM.out.vt
 have f52 := At.frozen HM.out.vt 52
 have c52 := Lib.hid (chg_setCell W g 52 (.int .i64 (x.n + 1)))
 have t52 := Lib.hid (VtAt.setN HM.out.vt (x.n + 1))
 go_upto_region 4 with fail
 have HM2 := Lib.hid (HM.out.put c52.out t52.out)
 clear k52 f52 c52 t52 HM
 obtain ⟨W2, hW2⟩ : ∃ W2, W.setCell ⟨g, 52, none⟩ (.int .i64 (x.n + 1)) = W2 := ⟨_, rfl⟩
 rw [hW2] at HM2 ⊢; clear hW2
 refine AnyOrder.region_kinds2 10 [.eq (ptr qs 0), .eq (s.b.V s.o s.p), .eq (.int .i64 s.b.ix), .eq (ptr g 0), .eq (ptr g 0), .eq (ptr g 0), .eq (ptr g 0), .eq (x.s.b.V x.s.o x.s.p), .eq (.int .i64 x.s.b.ix), .eq (.bool false)] (fun wx => Below W2.heap.size W2 wx) (by kernel_rfl) (by kernel_rfl) rfl (by kernel_rfl) (below_drewN (Below.refl _ _) 1) (fun p _ _ hp => by simp at hp) ?_ ?_
 ·intro i o listed a1 w2 hin ho st hl hdep
  match i, ho with
  | 0, ho => (injection ho with ho; subst ho; have ec := AnyOrder.evc a1; have ef := AnyOrder.evf a1; have e0 : a1.eval (.tmp 6) = ptr qs 0 := st.old hl 6 (by kernel_rfl); exact AnyOrder.sv rfl rfl (ptr qs 0) (by generalize a1.eval = ρ at ec ef e0 ⊢; simp [execOp, ec, ef, e0, IntWalk.i64_left, go_sem]) st.inv (Below.refl _ _) rfl)
  | 1, ho => (injection ho with ho; subst ho; have e0 : a1.eval (.tmp 20) = ptr qs 0 := st.done 0 20 (hdep ⟨0, .data⟩ (by simp) rfl) rfl; exact AnyOrder.sv rfl rfl (s.b.V s.o s.p) (run_load_bkm e0 (Sp.bk (SpAt.rng (At.step HM2.out.sp st.inv)))) st.inv (Below.refl _ _) rfl)
  | 2, ho => (injection ho with ho; subst ho; have ec := AnyOrder.evc a1; have ef := AnyOrder.evf a1; have e0 : a1.eval (.tmp 21) = s.b.V s.o s.p := st.done 1 21 (hdep ⟨1, .data⟩ (by simp) rfl) rfl; exact AnyOrder.step_call rfl (AnyOrder.wanted_none rfl) 20 #[s.b.V s.o s.p] (by generalize a1.eval = ρ at ec ef e0 ⊢; simp [execOp, ec, ef, e0, go_sem]) (((index_any s.b s.o s.p w2)).mono (fun e w3 h => by obtain ⟨rfl, hb⟩ := h; exact ⟨_, rfl, st.inv.trans (hb.mono st.inv.size), hb, rfl⟩)))
  | 3, ho => (injection ho with ho; subst ho; have e0 : a1.eval (.tmp 0) = ptr g 0 := st.old hl 0 (by kernel_rfl); exact AnyOrder.sv rfl rfl (ptr g 0) (AnyOrder.run_move e0) st.inv (Below.refl _ _) rfl)
  | 4, ho => (injection ho with ho; subst ho; have ec := AnyOrder.evc a1; have ef := AnyOrder.evf a1; have e0 : a1.eval (.tmp 23) = ptr g 0 := st.done 3 23 (hdep ⟨3, .data⟩ (by simp) rfl) rfl; exact AnyOrder.sv rfl rfl (ptr g 0) (by generalize a1.eval = ρ at ec ef e0 ⊢; simp [execOp, ec, ef, e0, IntWalk.i64_left, go_sem]) st.inv (Below.refl _ _) rfl)
  | 5, ho => (injection ho with ho; subst ho; have ec := AnyOrder.evc a1; have ef := AnyOrder.evf a1; have e0 : a1.eval (.tmp 24) = ptr g 0 := st.done 4 24 (hdep ⟨4, .data⟩ (by simp) rfl) rfl; exact AnyOrder.sv rfl rfl (ptr g 0) (by generalize a1.eval = ρ at ec ef e0 ⊢; simp [execOp, ec, ef, e0, IntWalk.i64_left, go_sem]) st.inv (Below.refl _ _) rfl)
  | 6, ho => (injection ho with ho; subst ho; have ec := AnyOrder.evc a1; have ef := AnyOrder.evf a1; have e0 : a1.eval (.tmp 25) = ptr g 0 := st.done 5 25 (hdep ⟨5, .data⟩ (by simp) rfl) rfl; exact AnyOrder.sv rfl rfl (ptr g 0) (by generalize a1.eval = ρ at ec ef e0 ⊢; simp [execOp, ec, ef, e0, IntWalk.i64_left, go_sem]) st.inv (Below.refl _ _) rfl)
  | 7, ho => (injection ho with ho; subst ho; have e0 : a1.eval (.tmp 26) = ptr g 0 := st.done 6 26 (hdep ⟨6, .data⟩ (by simp) rfl) rfl; exact AnyOrder.sv rfl rfl (x.s.b.V x.s.o x.s.p) (run_load_bkm e0 (Sp.bk (s := x.s) (VtAt.rng (x := { x with n := x.n + 1 }) (At.step HM2.out.vt st.inv)))) st.inv (Below.refl _ _) rfl)
  | 8, ho => (injection ho with ho; subst ho; have ec := AnyOrder.evc a1; have ef := AnyOrder.evf a1; have e0 : a1.eval (.tmp 27) = x.s.b.V x.s.o x.s.p := st.done 7 27 (hdep ⟨7, .data⟩ (by simp) rfl) rfl; exact AnyOrder.step_call rfl (AnyOrder.wanted_none rfl) 20 #[x.s.b.V x.s.o x.s.p] (by generalize a1.eval = ρ at ec ef e0 ⊢; simp [execOp, ec, ef, e0, go_sem]) (((index_any x.s.b x.s.o x.s.p w2)).mono (fun e w3 h => by obtain ⟨rfl, hb⟩ := h; exact ⟨_, rfl, st.inv.trans (hb.mono st.inv.size), hb, rfl⟩)))
  | 9, ho => (injection ho with ho; subst ho; have ec := AnyOrder.evc a1; have ef := AnyOrder.evf a1; have e0 : a1.eval (.tmp 22) = .int .i64 s.b.ix := st.done 2 22 (hdep ⟨2, .data⟩ (by simp) rfl) rfl; have e1 : a1.eval (.tmp 28) = .int .i64 x.s.b.ix := st.done 8 28 (hdep ⟨8, .data⟩ (by simp) rfl) rfl; exact AnyOrder.sv rfl rfl (.bool false) (by generalize a1.eval = ρ at ec ef e0 e1 ⊢; simp [execOp, e0, e1, go_sem, hne]) st.inv (Below.refl _ _) rfl)
  | n + 10, ho => exact absurd hin (by omega)
 ·intro w3 hJ3
  simp only [AnyOrder.finK, List.take_succ_cons, List.take_zero, List.drop_succ_cons, List.drop_zero, Act.put, List.setIfInBounds_toArray, List.set_cons_zero, List.set_cons_succ]
  have HM3 := Lib.hid (HM2.out.step hJ3)
  clear HM2 hJ3
  have HA3 : Hid (BAt w3 x.s.b x.s.o x.s.p) := Lib.hid (ha.chg HM3.out.chg HOFF.out)
  have HL := Lib.hid (hL w3 HM3.out.vt HA3.out (hb.chg HM3.out.chg HOFF.out))
  clear hL ha hb HA3 HOFF
  go_upto_region 7 with fail
  go_wp2_with (first | ((with_reducible apply wpList_load_cg (h := HM3.out.cg)); exact rfl; exact rfl; exact rfl) | ((with_reducible apply wpList_load_bk (h := HM3.out.bk)); exact rfl; exact rfl; exact rfl) | (go_at_call 28; (with_reducible refine HL.out.mono ?_)))
  rintro e4 w4 ⟨rfl, hb4⟩
  have HM4 := Lib.hid (HM3.out.step hb4)
  clear HM3 hb4 HL
  go_upto_region 9 with fail
  obtain ⟨tx, htx⟩ : ∃ tx : Vt, (⟨⟨b, o, p, k, x.s.t⟩, x.v, x.n + 1, x.m⟩ : Vt) = tx := ⟨_, rfl⟩
  refine AnyOrder.region_put 12 [ptr g 0, ptr g 0, b.V o p, k.V, ptr g 0, ptr g 0, ptr g 0, undef, ptr g 0, ptr g 0, ptr g 29, undef] (fun i w1 => (i = 7 → w1.rangeAt g 0 (b.cells o p).toList) ∧ (i = 11 → w1.rangeAt g 29 k.cs.toList)) (fun w1 => ∃ y : Vt, Cm w w1 (fun j => j = g) g qs qb qc qk y s b o p ch k ∧ (⟨⟨b, o, p, k, y.s.t⟩, y.v, y.n, y.m⟩ : Vt) = tx) (by kernel_rfl) (by kernel_rfl) rfl ?_ ⟨_, HM4.out.step (below_drewN (Below.refl _ _) 1), htx⟩ ?_ ?_
  ·intro i hi hd
   match i, hi with
   | 0, _ => cases hd
   | 1, _ => cases hd
   | 2, _ => cases hd
   | 3, _ => cases hd
   | 4, _ => cases hd
   | 5, _ => cases hd
   | 6, _ => cases hd
   | 7, _ => rfl
   | 8, _ => cases hd
   | 9, _ => cases hd
   | 10, _ => cases hd
   | 11, _ => rfl
  ·intro i o1 listed a1 w2 hin ho st hl hdep
   have e0 : a1.eval (.tmp 0) = ptr g 0 := st.old hl 0 (by kernel_rfl)
   have e7 : a1.eval (.tmp 7) = ptr qb 0 := st.old hl 7 (by kernel_rfl)
   have e9 : a1.eval (.tmp 9) = ptr qk 0 := st.old hl 9 (by kernel_rfl)
   obtain ⟨y, hy, hyx⟩ := st.inv
   match i, ho with
   | 0, ho => (injection ho with ho; subst ho; exact AnyOrder.step5_value rfl (AnyOrder.wanted_none rfl) (ptr g 0) (AnyOrder.run_move e0) ⟨y, hy, hyx⟩ rfl (fun j hj => st.mark j hj) ⟨(fun h => by cases h), (fun h => by cases h)⟩)
   | 1, ho => (injection ho with ho; subst ho; exact AnyOrder.step5_value rfl (AnyOrder.wanted_none rfl) (ptr g 0) (AnyOrder.run_move e0) ⟨y, hy, hyx⟩ rfl (fun j hj => st.mark j hj) ⟨(fun h => by cases h), (fun h => by cases h)⟩)
   | 2, ho => (injection ho with ho; subst ho; exact AnyOrder.step5_value rfl (AnyOrder.wanted_none rfl) (b.V o p) (run_load_bk e7 hy.bk) ⟨y, hy, hyx⟩ rfl (fun j hj => st.mark j hj) ⟨(fun h => by cases h), (fun h => by cases h)⟩)
   | 3, ho => (injection ho with ho; subst ho; exact AnyOrder.step5_value rfl (AnyOrder.wanted_none rfl) (k.V) (run_load_ykm e9 (fun j u hu => by rw [At.cell hy.yk, Nat.zero_add]; simpa using hu)) ⟨y, hy, hyx⟩ rfl (fun j hj => st.mark j hj) ⟨(fun h => by cases h), (fun h => by cases h)⟩)
   | 4, ho => (injection ho with ho; subst ho; have x1 : a1.eval (.tmp 42) = ptr g 0 := st.done 0 42 (hdep ⟨0, .data⟩ (by simp) rfl) rfl; exact AnyOrder.step5_value rfl (AnyOrder.wanted_none rfl) (ptr g 0) (by generalize a1.eval = ρ at x1 ⊢; simp [execOp, x1, go_sem]) ⟨y, hy, hyx⟩ rfl (fun j hj => st.mark j hj) ⟨(fun h => by cases h), (fun h => by cases h)⟩)
   | 5, ho => (injection ho with ho; subst ho; have x1 : a1.eval (.tmp 46) = ptr g 0 := st.done 4 46 (hdep ⟨4, .data⟩ (by simp) rfl) rfl; exact AnyOrder.step5_value rfl (AnyOrder.wanted_none rfl) (ptr g 0) (by generalize a1.eval = ρ at x1 ⊢; simp [execOp, x1, go_sem]) ⟨y, hy, hyx⟩ rfl (fun j hj => st.mark j hj) ⟨(fun h => by cases h), (fun h => by cases h)⟩)
   | 6, ho => (injection ho with ho; subst ho; have x1 : a1.eval (.tmp 47) = ptr g 0 := st.done 5 47 (hdep ⟨5, .data⟩ (by simp) rfl) rfl; exact AnyOrder.step5_value rfl (AnyOrder.wanted_none rfl) (ptr g 0) (by generalize a1.eval = ρ at x1 ⊢; simp [execOp, x1, go_sem]) ⟨y, hy, hyx⟩ rfl (fun j hj => st.mark j hj) ⟨(fun h => by cases h), (fun h => by cases h)⟩)
   | 7, ho => (injection ho with ho; subst ho; have x1 : a1.eval (.tmp 48) = ptr g 0 := st.done 6 48 (hdep ⟨6, .data⟩ (by simp) rfl) rfl; have x2 : a1.eval (.tmp 44) = b.V o p := st.done 2 44 (hdep ⟨2, .data⟩ (by simp) rfl) rfl; have ht := there_at hy.vt (o := 0) (n := 29) (by rw [y.size]; omega); exact AnyOrder.step5_store rfl (AnyOrder.wanted_none rfl) rfl (run_store_bkm ht x1 x2) ⟨_, hy.put (chg_setCells w2 g _ 0 w2) (VtAt.setB hy.vt b o p), hyx⟩ (fun j hj => ⟨fun _ => World.rangeAt_setCells_same w2 g 0 _ (by rw [Array.length_toList, b.size]; exact ht), fun h11 => World.rangeAt_setCells_apart (hj.elim (fun e => by omega) (fun e => (st.mark j e).2 h11)) g 0 _ (.inr (.inr (Nat.le_of_eq (by rw [Array.length_toList, b.size]))))⟩))
   | 8, ho => (injection ho with ho; subst ho; have x1 : a1.eval (.tmp 43) = ptr g 0 := st.done 1 43 (hdep ⟨1, .data⟩ (by simp) rfl) rfl; exact AnyOrder.step5_value rfl (AnyOrder.wanted_none rfl) (ptr g 0) (by generalize a1.eval = ρ at x1 ⊢; simp [execOp, x1, go_sem]) ⟨y, hy, hyx⟩ rfl (fun j hj => st.mark j hj) ⟨(fun h => by cases h), (fun h => by cases h)⟩)
   | 9, ho => (injection ho with ho; subst ho; have x1 : a1.eval (.tmp 49) = ptr g 0 := st.done 8 49 (hdep ⟨8, .data⟩ (by simp) rfl) rfl; exact AnyOrder.step5_value rfl (AnyOrder.wanted_none rfl) (ptr g 0) (by generalize a1.eval = ρ at x1 ⊢; simp [execOp, x1, go_sem]) ⟨y, hy, hyx⟩ rfl (fun j hj => st.mark j hj) ⟨(fun h => by cases h), (fun h => by cases h)⟩)
   | 10, ho => (injection ho with ho; subst ho; have x1 : a1.eval (.tmp 50) = ptr g 0 := st.done 9 50 (hdep ⟨9, .data⟩ (by simp) rfl) rfl; exact AnyOrder.step5_value rfl (AnyOrder.wanted_none rfl) (ptr g 29) (by generalize a1.eval = ρ at x1 ⊢; simp [execOp, x1, go_sem]) ⟨y, hy, hyx⟩ rfl (fun j hj => st.mark j hj) ⟨(fun h => by cases h), (fun h => by cases h)⟩)
   | 11, ho => (injection ho with ho; subst ho; have x1 : a1.eval (.tmp 51) = ptr g 29 := st.done 10 51 (hdep ⟨10, .data⟩ (by simp) rfl) rfl; have x2 : a1.eval (.tmp 45) = k.V := st.done 3 45 (hdep ⟨3, .data⟩ (by simp) rfl) rfl; have ht := there_at hy.vt (o := 29) (n := 21) (by rw [y.size]; omega); exact AnyOrder.step5_store rfl (AnyOrder.wanted_none rfl) rfl (run_store_ykm ht x1 x2) ⟨_, hy.put (chg_setCells w2 g _ 29 w2) (VtAt.setK hy.vt k), hyx⟩ (fun j hj => ⟨fun h7 => World.rangeAt_setCells_apart (hj.elim (fun e => by omega) (fun e => (st.mark j e).1 h7)) g 29 _ (.inr (.inl (Nat.le_of_eq (by rw [Array.length_toList, b.size])))), fun _ => World.rangeAt_setCells_same w2 g 29 _ (by rw [Array.length_toList, k.sz]; exact ht)⟩))
   | n + 12, ho => exact absurd hin (by omega)
  ·intro w5 hJ5 hM5
   obtain ⟨y, hy, hyx⟩ := hJ5
   have hv5 := vt_norm hy.vt ((hM5 7 (by decide)).1 rfl) ((hM5 11 (by decide)).2 rfl)
   rw [hyx, ← htx] at hv5
   obtain ⟨cs5, hs5, v5, h5, b5, c5, y5, l5⟩ := hy
   have HM6 : Hid (Cm w w5 (fun j => j = g) g qs qb qc qk ⟨⟨b, o, p, k, x.s.t⟩, x.v, x.n + 1, x.m⟩ s b o p ch k) := Lib.hid ⟨cs5, hs5, hv5, h5, b5, c5, y5, l5⟩
   clear cs5 hs5 v5 h5 b5 c5 y5 l5 hyx hM5 hv5 HM4 y htx tx
   simp only [AnyOrder.finK, List.map_cons, List.map_nil, List.take_succ_cons, List.take_zero, List.drop_succ_cons, List.drop_zero, Act.put, List.setIfInBounds_toArray, List.set_cons_zero, List.set_cons_succ]
   go_upto_region 10 with fail
   have HO6 : Hid (Sh.OwO eG w5 B x.v xs) := Lib.hid (HO.out.chg HM6.out.chg HOG.out)
   have HB6 : Hid (B ≤ w5.heap.size) := Lib.hid (Nat.le_trans HLB.out HM6.out.chg.size)
   have hb7 : Below w5.heap.size w5 (w5.alloc (.cells ch.cells 48)).drew := ((Below.refl _ _).alloc (Nat.le_refl _) _).drew
   have HM7 := Lib.hid (HM6.out.step hb7)
   obtain ⟨v1, w7, hr7, ho7, hc7, hl7⟩ := Sh.OwO.push (x := ch) (HO6.out.below hb7) (Nat.le_trans HB6.out hb7.size) (b := w5.heap.size) (off := 0) (cap := 1) (fun j u hu => by rw [At.cell (show At _ w5.heap.size 48 ch.cells from (At.new w5 48 ch.cells).drew), Nat.zero_add]; simpa [eG] using hu) (by have := HLN.out; omega) 49
   obtain ⟨O1, c1, rfl, _⟩ := ho7.form
   obtain ⟨n1, hn1⟩ : ∃ n, (xs ++ [ch]).length = n := ⟨_, rfl⟩
   rw [hn1] at hr7 ho7 hl7
   clear hn1
   have HR7 := Lib.hid hr7
   have hg7 : ¬ x.v.ownBlock = some g := fun e => HOG.out g e rfl
   have hv7 : VtAt w7 g { x with n := x.n + 1, s := ⟨b, o, p, k, x.s.t⟩ } := At.chg HM7.out.vt hc7 hg7
   have k51 := VtAt.k51 HM6.out.vt
   have a51 : ∀ o : Obj, (w5.alloc o).cell? ⟨g, 51, none⟩ = some x.v := fun ob => VtAt.k51 (x := ⟨⟨b, o, p, k, x.s.t⟩, x.v, x.n + 1, x.m⟩) (At.alloc HM6.out.vt ob)
   have f51 := At.frozen hv7 51
   have z51 := VtAt.k51 hv7
   have HV7 := Lib.hid (VtAt.setV hv7 (.slice O1 n1 c1))
   have HC7 := Lib.hid (((HM7.out.chg.mono (T := fun j => j = g ∨ x.v.ownBlock = some j) (fun _ _ h => .inl h)).trans hc7 (fun _ _ h => .inr h)).trans (chg_setCell w7 g 51 (.slice O1 n1 c1)) (fun _ _ h => .inl h))
   have HO7 := Lib.hid (ho7.chg (chg_setCell w7 g 51 (.slice O1 n1 c1)) (fun j hj e => ho7.ty hv7 (show eG.e ≠ _ from by decide) ((show j = g from e) ▸ hj)))
   have HL7 : Hid (Lies w x.v (.slice O1 n1 c1)) := Lib.hid ((Lies.refl w x.v).trans hl7 HM7.out.chg.size)
   have HK := Lib.hid HM6.out.cg
   clear hr7 ho7 hc7 hl7 hg7 hv7 hb7 HM7 HO6 HB6 HO HLB HLN HOG
   have q0 : w5.cell? ⟨qc, 0, none⟩ = some (.int .i64 ch.ix) := At.cell HK.out 0
   have q1 : w5.cell? ⟨qc, 1, none⟩ = some (.int .i64 ch.k.id) := At.cell HK.out 1
   have q2 : w5.cell? ⟨qc, 2, none⟩ = some (.int .i64 ch.k.kind) := At.cell HK.out 2
   have q3 : w5.cell? ⟨qc, 3, none⟩ = some (.int .i64 ch.k.frm) := At.cell HK.out 3
   have q4 : w5.cell? ⟨qc, 4, none⟩ = some (.int .i64 ch.k.dto) := At.cell HK.out 4
   have q5 : w5.cell? ⟨qc, 5, none⟩ = some (.int .i64 ch.k.car) := At.cell HK.out 5
   have q6 : w5.cell? ⟨qc, 6, none⟩ = some (.int .i64 ch.k.st) := At.cell HK.out 6
   have q7 : w5.cell? ⟨qc, 7, none⟩ = some (.int .i64 ch.k.own) := At.cell HK.out 7
   have q8 : w5.cell? ⟨qc, 8, none⟩ = some (.int .i64 ch.k.born) := At.cell HK.out 8
   have q9 : w5.cell? ⟨qc, 9, none⟩ = some (.int .i64 ch.car) := At.cell HK.out 9
   have q10 : w5.cell? ⟨qc, 10, none⟩ = some (.int .i64 ch.mode) := At.cell HK.out 10
   go_region_law ((refine step_append_run (by rfl) (.tmp 56) (.tmp 58) 49 49 (by rfl) _ _ (by rfl) (by rfl) (.slice O1 n1 c1) w7 HR7.out ?_))
   all_goals go_wp2_with fail
   all_goals go_ret
   all_goals exact ⟨rfl, _, HV7.out, HO7.out, HC7.out, HL7.out⟩
end Go.Proofs.YtplapoenhohliaaGreat
