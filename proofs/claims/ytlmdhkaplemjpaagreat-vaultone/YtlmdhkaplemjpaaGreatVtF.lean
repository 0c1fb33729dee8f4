/- Commit. -/
import Derived.Test.YtlmdhkaplemjpaaGreatVtE
import Derived.Test.YtlmdhkaplemjpaaGreatOrder6
import Derived.Test.YtlmdhkaplemjpaaGreatOrder7
import Derived.Deep.RegionLaw
namespace Go.Proofs.YtlmdhkaplemjpaaGreat
open Go.RowKit Go.Lib
set_option linter.unusedVariables false
set_option linter.unusedSimpArgs false

/-- an append whose run is known, as one step of a region that draws -/
theorem step_append_run {P : Program} {ops : Array Oper} {o : Oper} {a : Go.Act} {w : World} {K : Go.Act → World → Prop} {Q : Exit → Go.Act → World → Prop} {E : Prop} (hgd : o.guard = none) (s x : Operand) (t tn : TypeId)
    (ho : o.op = .call { callee := .builtin .append, args := #[s, x], argTypes := #[t, tn] }) (vs vx : Value) (hs : a.eval s = vs) (hx : a.eval x = vx) (v' : Value) (w' : World) (hr : (Builtin.append_ #[t, tn] o.type #[vs, vx]).run P w = .ok v' w')
    (h : K (a.put o.dst v') w') : if Region.wanted o (yielded ops a.tmps) = true then Oper.wp P o a w K Q else E := by
  have hw : Region.wanted o (yielded ops a.tmps) = true := by simp [Region.wanted, hgd]
  rw [if_pos hw]
  unfold Oper.wp execOp
  simp only [ho, resolve, invoke, builtin, Sem.run_bind, Sem.run_pure, Result.andThen_ok, List.map_toArray, List.map_cons, List.map_nil, hs, hx, hr]
  exact h
/-- Commit's blocks -/
structure Cm (w W : World) (S : Nat → Prop) (g qs qb qc qk : Nat) (x : Vt) (s : Sp) (b : Bk) (o p : Option Addr) (ch : Cg) (k : Yk) : Prop where
  chg : Chg w W S
  hS : S g
  vt : VtAt W g x
  sp : SpAt W qs s
  bk : BkAt W qb b o p
  cg : CgAt W qc ch
  yk : YkAt W qk k
  lo : w.heap.size ≤ qc
section
variable {w W W' : World} {S : Nat → Prop} {g qs qb qc qk : Nat} {x x' : Vt} {s : Sp} {b : Bk} {o p : Option Addr} {ch : Cg} {k : Yk}
theorem Cm.new (h : VtAt w g x) (hS : S g) (s : Sp) (b : Bk) (o p : Option Addr) (ch : Cg) (k : Yk) : Cm w ((((w.alloc (.cells s.cells 44)).alloc (.cells (b.cells o p) 37)).alloc (.cells ch.cells 48)).alloc (.cells k.cs 42)) S g w.heap.size (w.heap.size + 1) (w.heap.size + 1 + 1) (w.heap.size + 1 + 1 + 1) x s b o p ch k := by
  obtain ⟨h1, h2, h3, h4, h5⟩ := new4 w s.cells (b.cells o p) ch.cells k.cs 44 37 48 42
  exact ⟨Chg.ofBelow h1 S, hS, At.step h h1, h2, h3, h4, h5, by omega⟩
theorem Cm.step (h : Cm w W S g qs qb qc qk x s b o p ch k) (hb : Below W.heap.size W W') : Cm w W' S g qs qb qc qk x s b o p ch k :=
  ⟨h.chg.trans (Chg.ofBelow hb (fun _ => False)) (fun _ _ h => h.elim), h.hS, h.vt.step hb, h.sp.step hb, h.bk.step hb, h.cg.step hb, h.yk.step hb, h.lo⟩
theorem Cm.put (h : Cm w W S g qs qb qc qk x s b o p ch k) (hc : Chg W W' (fun j => j = g)) (hv : VtAt W' g x') : Cm w W' S g qs qb qc qk x' s b o p ch k :=
  ⟨h.chg.trans hc (fun _ _ e => by have e : _ = g := e; subst e; exact h.hS), h.hS, hv, At.chg h.sp hc (At.ne h.sp h.vt (by decide)), At.chg h.bk hc (At.ne h.bk h.vt (by decide)), At.chg h.cg hc (At.ne h.cg h.vt (by decide)), At.chg h.yk hc (At.ne h.yk h.vt (by decide)), h.lo⟩
end
theorem vtOff {w : World} {g B : Nat} {x : Vt} {xs : List Cg} (hv : VtAt w g x) (ho : Sh.OwO eG w B x.v xs) : Sh.Off w (fun j => j = g ∨ x.v.ownBlock = some j) := fun k hk ds => by
  rcases hk with hk | hk
  · exact Off.one hv (by decide) (by decide) k hk ds
  · exact ⟨fun h => ho.ty h (show eG.e ≠ _ from by decide) hk, fun h => ho.ty h (show eG.e ≠ _ from by decide) hk⟩
theorem wpList_store_ykm {ops : Array Oper} {rest : List Oper} {o : Oper} {a : Act} {w : World} {Q : Exit → Act → World → Prop} (x y : Tmp) (ho : o.op = .store 42 (.tmp x) (.tmp y)) (hgd : o.guard = none) {g off : Nat} {c : Yk} (ht : w.there g off 21) (e1 : a.eval (.tmp x) = ptr g off) (e2 : a.eval (.tmp y) = c.V)
    (k : wpList Tryz.prog ops Q rest (a.put o.dst undef) (w.setCells g off c.cs.toList)) : wpList Tryz.prog ops Q (o :: rest) a w :=
  wpList_store_mid hgd 42 (.tmp x) (.tmp y) ho g off c.cs e1 e2 (by rw [c.sz]; exact ht) (size42 c) c.one k
set_option maxRecDepth 100000 in
set_option maxHeartbeats 800000 in
theorem commit_nil (s : Sp) (b : Bk) (o p : Option Addr) (ch : Cg) (k : Yk) (w : World) : Calls Tryz.prog 9 #[.pointer none, s.V, b.V o p, ch.V, k.V] w fun e w' => e = .returned (.int .i64 2) ∧ Below w.heap.size w w' := by
  have H := Lib.hid (new4 w s.cells (b.cells o p) ch.cells k.cs 44 37 48 42).1
  go_enter Tryz.func9, Tryz.ntmps9
  go_wp2_with fail
  go_ret
  exact ⟨rfl, H.out⟩
set_option maxRecDepth 100000 in
set_option maxHeartbeats 3200000 in
theorem commit_stale {x : Vt} {s : Sp} {b : Bk} {o p : Option Addr} {ch : Cg} {k : Yk} {g : Nat} {w : World} (hv : VtAt w g x) (hi : s.b.ix ≠ x.s.b.ix) (hn : 0 ≤ x.n ∧ x.n < 100000) (hm : 0 ≤ x.m ∧ x.m < 100000) : Calls Tryz.prog 9 #[ptr g 0, s.V, b.V o p, ch.V, k.V] w fun e w' => e = .returned (.int .i64 9) ∧ VtAt w' g { x with n := x.n + 1, m := x.m + 1 } ∧ Chg w w' (fun j => j = g) := by
  have HM := Lib.hid (Cm.new (S := fun j => j = g) hv rfl s b o p ch k)
  have hw1 : IntKind.i64.wrap (x.n + 1) = x.n + 1 := IntWalk.i64_in _ (by omega)
  have hw2 : IntKind.i64.wrap (x.m + 1) = x.m + 1 := IntWalk.i64_in _ (by omega)
  have hne : (s.b.ix != x.s.b.ix) = true := by simpa using hi
  clear hi hn hm
  clear hv
  go_enter Tryz.func9, Tryz.ntmps9
  go_upto_region 1 with fail
  obtain ⟨W, hW⟩ : ∃ W, ((((w.alloc (.cells s.cells 44)).alloc (.cells (b.cells o p) 37)).alloc (.cells ch.cells 48)).alloc (.cells k.cs 42)) = W := ⟨_, rfl⟩
  rw [hW] at HM ⊢; clear hW
  generalize w.heap.size + 1 + 1 + 1 = qk at HM ⊢
  generalize w.heap.size + 1 + 1 = qc at HM ⊢
  generalize w.heap.size + 1 = qb at HM ⊢
  obtain ⟨qs, hqs⟩ : ∃ qs, w.heap.size = qs := ⟨_, rfl⟩
  rw [hqs] at HM ⊢
  have k52 := VtAt.k52 HM.out.vt
  have f52 := At.frozen HM.out.vt 52
  have c52 := Lib.hid (chg_setCell W g 52 (.int .i64 (x.n + 1)))
  have t52 := Lib.hid (VtAt.setN HM.out.vt (x.n + 1))
  go_upto_region 4 with fail
  have HM2 := Lib.hid (HM.out.put c52.out t52.out)
  clear k52 f52 c52 t52 HM
  obtain ⟨W2, hW2⟩ : ∃ W2, W.setCell ⟨g, 52, none⟩ (.int .i64 (x.n + 1)) = W2 := ⟨_, rfl⟩
  rw [hW2] at HM2 ⊢; clear hW2
  refine AnyOrder.region_kinds2 10 [.eq (ptr qs 0), .eq (s.b.V s.o s.p), .eq (.int .i64 s.b.ix), .eq (ptr g 0), .eq (ptr g 0), .eq (ptr g 0), .eq (ptr g 0), .eq (x.s.b.V x.s.o x.s.p), .eq (.int .i64 x.s.b.ix), .eq (.bool true)] (fun wx => Below W2.heap.size W2 wx) (by kernel_rfl) (by kernel_rfl) rfl (by kernel_rfl) (below_drewN (Below.refl _ _) 1) (fun p _ _ hp => by simp at hp) ?_ ?_
  · intro i o listed a1 w2 hin ho st hl hdep
    match i, ho with
    | 0, ho => (injection ho with ho; subst ho; have ec : ∀ v, a1.eval (.const v) = v := fun _ => rfl; have ef : ∀ f, a1.eval (.func f) = .func (.func f) #[] #[] := fun _ => rfl; have e0 : a1.eval (.tmp 6) = ptr qs 0 := st.old hl 6 (by kernel_rfl); exact AnyOrder.step_value rfl (AnyOrder.wanted_none rfl) (ptr qs 0) (by generalize a1.eval = ρ at ec ef e0 ⊢; simp [execOp, ec, ef, e0, IntWalk.i64_left, go_sem]) st.inv (Below.refl _ _) rfl)
    | 1, ho => (injection ho with ho; subst ho; have ec : ∀ v, a1.eval (.const v) = v := fun _ => rfl; have ef : ∀ f, a1.eval (.func f) = .func (.func f) #[] #[] := fun _ => rfl; have e0 : a1.eval (.tmp 20) = ptr qs 0 := st.done 0 20 (hdep ⟨0, .data⟩ (by simp) rfl) rfl; exact AnyOrder.step_value rfl (AnyOrder.wanted_none rfl) (s.b.V s.o s.p) (run_load_bkm e0 (Sp.bk (SpAt.rng (At.step HM2.out.sp st.inv)))) st.inv (Below.refl _ _) rfl)
    | 2, ho => (injection ho with ho; subst ho; have ec : ∀ v, a1.eval (.const v) = v := fun _ => rfl; have ef : ∀ f, a1.eval (.func f) = .func (.func f) #[] #[] := fun _ => rfl; have e0 : a1.eval (.tmp 21) = s.b.V s.o s.p := st.done 1 21 (hdep ⟨1, .data⟩ (by simp) rfl) rfl; exact AnyOrder.step_call rfl (AnyOrder.wanted_none rfl) 22 #[s.b.V s.o s.p] (by generalize a1.eval = ρ at ec ef e0 ⊢; simp [execOp, ec, ef, e0, go_sem]) (((index_any s.b s.o s.p w2)).mono (fun e w3 h => by obtain ⟨rfl, hb⟩ := h; exact ⟨_, rfl, st.inv.trans (hb.mono st.inv.size), hb, rfl⟩)))
    | 3, ho => (injection ho with ho; subst ho; have ec : ∀ v, a1.eval (.const v) = v := fun _ => rfl; have ef : ∀ f, a1.eval (.func f) = .func (.func f) #[] #[] := fun _ => rfl; have e0 : a1.eval (.tmp 0) = ptr g 0 := st.old hl 0 (by kernel_rfl); exact AnyOrder.step_value rfl (AnyOrder.wanted_none rfl) (ptr g 0) (AnyOrder.run_move e0) st.inv (Below.refl _ _) rfl)
    | 4, ho => (injection ho with ho; subst ho; have ec : ∀ v, a1.eval (.const v) = v := fun _ => rfl; have ef : ∀ f, a1.eval (.func f) = .func (.func f) #[] #[] := fun _ => rfl; have e0 : a1.eval (.tmp 23) = ptr g 0 := st.done 3 23 (hdep ⟨3, .data⟩ (by simp) rfl) rfl; exact AnyOrder.step_value rfl (AnyOrder.wanted_none rfl) (ptr g 0) (by generalize a1.eval = ρ at ec ef e0 ⊢; simp [execOp, ec, ef, e0, IntWalk.i64_left, go_sem]) st.inv (Below.refl _ _) rfl)
    | 5, ho => (injection ho with ho; subst ho; have ec : ∀ v, a1.eval (.const v) = v := fun _ => rfl; have ef : ∀ f, a1.eval (.func f) = .func (.func f) #[] #[] := fun _ => rfl; have e0 : a1.eval (.tmp 24) = ptr g 0 := st.done 4 24 (hdep ⟨4, .data⟩ (by simp) rfl) rfl; exact AnyOrder.step_value rfl (AnyOrder.wanted_none rfl) (ptr g 0) (by generalize a1.eval = ρ at ec ef e0 ⊢; simp [execOp, ec, ef, e0, IntWalk.i64_left, go_sem]) st.inv (Below.refl _ _) rfl)
    | 6, ho => (injection ho with ho; subst ho; have ec : ∀ v, a1.eval (.const v) = v := fun _ => rfl; have ef : ∀ f, a1.eval (.func f) = .func (.func f) #[] #[] := fun _ => rfl; have e0 : a1.eval (.tmp 25) = ptr g 0 := st.done 5 25 (hdep ⟨5, .data⟩ (by simp) rfl) rfl; exact AnyOrder.step_value rfl (AnyOrder.wanted_none rfl) (ptr g 0) (by generalize a1.eval = ρ at ec ef e0 ⊢; simp [execOp, ec, ef, e0, IntWalk.i64_left, go_sem]) st.inv (Below.refl _ _) rfl)
    | 7, ho => (injection ho with ho; subst ho; have ec : ∀ v, a1.eval (.const v) = v := fun _ => rfl; have ef : ∀ f, a1.eval (.func f) = .func (.func f) #[] #[] := fun _ => rfl; have e0 : a1.eval (.tmp 26) = ptr g 0 := st.done 6 26 (hdep ⟨6, .data⟩ (by simp) rfl) rfl; exact AnyOrder.step_value rfl (AnyOrder.wanted_none rfl) (x.s.b.V x.s.o x.s.p) (run_load_bkm e0 (Sp.bk (s := x.s) (VtAt.rng (x := { x with n := x.n + 1 }) (At.step HM2.out.vt st.inv)))) st.inv (Below.refl _ _) rfl)
    | 8, ho => (injection ho with ho; subst ho; have ec : ∀ v, a1.eval (.const v) = v := fun _ => rfl; have ef : ∀ f, a1.eval (.func f) = .func (.func f) #[] #[] := fun _ => rfl; have e0 : a1.eval (.tmp 27) = x.s.b.V x.s.o x.s.p := st.done 7 27 (hdep ⟨7, .data⟩ (by simp) rfl) rfl; exact AnyOrder.step_call rfl (AnyOrder.wanted_none rfl) 22 #[x.s.b.V x.s.o x.s.p] (by generalize a1.eval = ρ at ec ef e0 ⊢; simp [execOp, ec, ef, e0, go_sem]) (((index_any x.s.b x.s.o x.s.p w2)).mono (fun e w3 h => by obtain ⟨rfl, hb⟩ := h; exact ⟨_, rfl, st.inv.trans (hb.mono st.inv.size), hb, rfl⟩)))
    | 9, ho => (injection ho with ho; subst ho; have ec : ∀ v, a1.eval (.const v) = v := fun _ => rfl; have ef : ∀ f, a1.eval (.func f) = .func (.func f) #[] #[] := fun _ => rfl; have e0 : a1.eval (.tmp 22) = .int .i64 s.b.ix := st.done 2 22 (hdep ⟨2, .data⟩ (by simp) rfl) rfl; have e1 : a1.eval (.tmp 28) = .int .i64 x.s.b.ix := st.done 8 28 (hdep ⟨8, .data⟩ (by simp) rfl) rfl; exact AnyOrder.step_value rfl (AnyOrder.wanted_none rfl) (.bool true) (by generalize a1.eval = ρ at ec ef e0 e1 ⊢; simp [execOp, e0, e1, go_sem, hne]) st.inv (Below.refl _ _) rfl)
    | n + 10, ho => exact absurd hin (by omega)
  · intro w3 hJ3
    simp only [AnyOrder.finK, List.take_succ_cons, List.take_zero, List.drop_succ_cons, List.drop_zero, Act.put, List.setIfInBounds_toArray, List.set_cons_zero, List.set_cons_succ]
    have HM3 := Lib.hid (HM2.out.step hJ3)
    clear HM2 hJ3
    have k53 := VtAt.k53 HM3.out.vt
    have f53 := At.frozen HM3.out.vt 53
    have c53 := Lib.hid (chg_setCell w3 g 53 (.int .i64 (x.m + 1)))
    have t53 := Lib.hid (VtAt.setM HM3.out.vt (x.m + 1))
    have HF := Lib.hid (HM3.out.put c53.out t53.out)
    go_wp2_with fail
    go_ret
    exact ⟨rfl, HF.out.vt, HF.out.chg⟩
set_option maxRecDepth 100000 in
set_option maxHeartbeats 3200000 in
theorem commit_arg {x : Vt} {s : Sp} {b : Bk} {o p : Option Addr} {ch : Cg} {k : Yk} {g : Nat} {w : World} (hv : VtAt w g x) (hi : s.b.ix = x.s.b.ix) (hn : 0 ≤ x.n ∧ x.n < 100000) (ha : BAt w x.s.b x.s.o x.s.p) (hL : ∀ W, VtAt W g { x with n := x.n + 1 } → BAt W x.s.b x.s.o x.s.p → Calls Tryz.prog 32 #[ptr g 0, ch.V, b.V o p] W (Yes W false)) : Calls Tryz.prog 9 #[ptr g 0, s.V, b.V o p, ch.V, k.V] w fun e w' => e = .returned (.int .i64 1) ∧ VtAt w' g { x with n := x.n + 1 } ∧ Chg w w' (fun j => j = g) := by
  have HM := Lib.hid (Cm.new (S := fun j => j = g) hv rfl s b o p ch k)
  have hw1 : IntKind.i64.wrap (x.n + 1) = x.n + 1 := IntWalk.i64_in _ (by omega)
  have hne : (s.b.ix != x.s.b.ix) = false := by simpa using hi
  have HOFF := Lib.hid (Off.one hv (by decide) (by decide))
  clear hi hn
  clear hv
  go_enter Tryz.func9, Tryz.ntmps9
  go_upto_region 1 with fail
  obtain ⟨W, hW⟩ : ∃ W, ((((w.alloc (.cells s.cells 44)).alloc (.cells (b.cells o p) 37)).alloc (.cells ch.cells 48)).alloc (.cells k.cs 42)) = W := ⟨_, rfl⟩
  rw [hW] at HM ⊢; clear hW
  generalize w.heap.size + 1 + 1 + 1 = qk at HM ⊢
  generalize w.heap.size + 1 + 1 = qc at HM ⊢
  generalize w.heap.size + 1 = qb at HM ⊢
  obtain ⟨qs, hqs⟩ : ∃ qs, w.heap.size = qs := ⟨_, rfl⟩
  rw [hqs] at HM ⊢
  have k52 := VtAt.k52 HM.out.vt
  have f52 := At.frozen HM.out.vt 52
  have c52 := Lib.hid (chg_setCell W g 52 (.int .i64 (x.n + 1)))
  have t52 := Lib.hid (VtAt.setN HM.out.vt (x.n + 1))
  go_upto_region 4 with fail
  have HM2 := Lib.hid (HM.out.put c52.out t52.out)
  clear k52 f52 c52 t52 HM
  obtain ⟨W2, hW2⟩ : ∃ W2, W.setCell ⟨g, 52, none⟩ (.int .i64 (x.n + 1)) = W2 := ⟨_, rfl⟩
  rw [hW2] at HM2 ⊢; clear hW2
  refine AnyOrder.region_kinds2 10 [.eq (ptr qs 0), .eq (s.b.V s.o s.p), .eq (.int .i64 s.b.ix), .eq (ptr g 0), .eq (ptr g 0), .eq (ptr g 0), .eq (ptr g 0), .eq (x.s.b.V x.s.o x.s.p), .eq (.int .i64 x.s.b.ix), .eq (.bool false)] (fun wx => Below W2.heap.size W2 wx) (by kernel_rfl) (by kernel_rfl) rfl (by kernel_rfl) (below_drewN (Below.refl _ _) 1) (fun p _ _ hp => by simp at hp) ?_ ?_
  · intro i o listed a1 w2 hin ho st hl hdep
    match i, ho with
    | 0, ho => (injection ho with ho; subst ho; have ec : ∀ v, a1.eval (.const v) = v := fun _ => rfl; have ef : ∀ f, a1.eval (.func f) = .func (.func f) #[] #[] := fun _ => rfl; have e0 : a1.eval (.tmp 6) = ptr qs 0 := st.old hl 6 (by kernel_rfl); exact AnyOrder.step_value rfl (AnyOrder.wanted_none rfl) (ptr qs 0) (by generalize a1.eval = ρ at ec ef e0 ⊢; simp [execOp, ec, ef, e0, IntWalk.i64_left, go_sem]) st.inv (Below.refl _ _) rfl)
    | 1, ho => (injection ho with ho; subst ho; have ec : ∀ v, a1.eval (.const v) = v := fun _ => rfl; have ef : ∀ f, a1.eval (.func f) = .func (.func f) #[] #[] := fun _ => rfl; have e0 : a1.eval (.tmp 20) = ptr qs 0 := st.done 0 20 (hdep ⟨0, .data⟩ (by simp) rfl) rfl; exact AnyOrder.step_value rfl (AnyOrder.wanted_none rfl) (s.b.V s.o s.p) (run_load_bkm e0 (Sp.bk (SpAt.rng (At.step HM2.out.sp st.inv)))) st.inv (Below.refl _ _) rfl)
    | 2, ho => (injection ho with ho; subst ho; have ec : ∀ v, a1.eval (.const v) = v := fun _ => rfl; have ef : ∀ f, a1.eval (.func f) = .func (.func f) #[] #[] := fun _ => rfl; have e0 : a1.eval (.tmp 21) = s.b.V s.o s.p := st.done 1 21 (hdep ⟨1, .data⟩ (by simp) rfl) rfl; exact AnyOrder.step_call rfl (AnyOrder.wanted_none rfl) 22 #[s.b.V s.o s.p] (by generalize a1.eval = ρ at ec ef e0 ⊢; simp [execOp, ec, ef, e0, go_sem]) (((index_any s.b s.o s.p w2)).mono (fun e w3 h => by obtain ⟨rfl, hb⟩ := h; exact ⟨_, rfl, st.inv.trans (hb.mono st.inv.size), hb, rfl⟩)))
    | 3, ho => (injection ho with ho; subst ho; have ec : ∀ v, a1.eval (.const v) = v := fun _ => rfl; have ef : ∀ f, a1.eval (.func f) = .func (.func f) #[] #[] := fun _ => rfl; have e0 : a1.eval (.tmp 0) = ptr g 0 := st.old hl 0 (by kernel_rfl); exact AnyOrder.step_value rfl (AnyOrder.wanted_none rfl) (ptr g 0) (AnyOrder.run_move e0) st.inv (Below.refl _ _) rfl)
    | 4, ho => (injection ho with ho; subst ho; have ec : ∀ v, a1.eval (.const v) = v := fun _ => rfl; have ef : ∀ f, a1.eval (.func f) = .func (.func f) #[] #[] := fun _ => rfl; have e0 : a1.eval (.tmp 23) = ptr g 0 := st.done 3 23 (hdep ⟨3, .data⟩ (by simp) rfl) rfl; exact AnyOrder.step_value rfl (AnyOrder.wanted_none rfl) (ptr g 0) (by generalize a1.eval = ρ at ec ef e0 ⊢; simp [execOp, ec, ef, e0, IntWalk.i64_left, go_sem]) st.inv (Below.refl _ _) rfl)
    | 5, ho => (injection ho with ho; subst ho; have ec : ∀ v, a1.eval (.const v) = v := fun _ => rfl; have ef : ∀ f, a1.eval (.func f) = .func (.func f) #[] #[] := fun _ => rfl; have e0 : a1.eval (.tmp 24) = ptr g 0 := st.done 4 24 (hdep ⟨4, .data⟩ (by simp) rfl) rfl; exact AnyOrder.step_value rfl (AnyOrder.wanted_none rfl) (ptr g 0) (by generalize a1.eval = ρ at ec ef e0 ⊢; simp [execOp, ec, ef, e0, IntWalk.i64_left, go_sem]) st.inv (Below.refl _ _) rfl)
    | 6, ho => (injection ho with ho; subst ho; have ec : ∀ v, a1.eval (.const v) = v := fun _ => rfl; have ef : ∀ f, a1.eval (.func f) = .func (.func f) #[] #[] := fun _ => rfl; have e0 : a1.eval (.tmp 25) = ptr g 0 := st.done 5 25 (hdep ⟨5, .data⟩ (by simp) rfl) rfl; exact AnyOrder.step_value rfl (AnyOrder.wanted_none rfl) (ptr g 0) (by generalize a1.eval = ρ at ec ef e0 ⊢; simp [execOp, ec, ef, e0, IntWalk.i64_left, go_sem]) st.inv (Below.refl _ _) rfl)
    | 7, ho => (injection ho with ho; subst ho; have ec : ∀ v, a1.eval (.const v) = v := fun _ => rfl; have ef : ∀ f, a1.eval (.func f) = .func (.func f) #[] #[] := fun _ => rfl; have e0 : a1.eval (.tmp 26) = ptr g 0 := st.done 6 26 (hdep ⟨6, .data⟩ (by simp) rfl) rfl; exact AnyOrder.step_value rfl (AnyOrder.wanted_none rfl) (x.s.b.V x.s.o x.s.p) (run_load_bkm e0 (Sp.bk (s := x.s) (VtAt.rng (x := { x with n := x.n + 1 }) (At.step HM2.out.vt st.inv)))) st.inv (Below.refl _ _) rfl)
    | 8, ho => (injection ho with ho; subst ho; have ec : ∀ v, a1.eval (.const v) = v := fun _ => rfl; have ef : ∀ f, a1.eval (.func f) = .func (.func f) #[] #[] := fun _ => rfl; have e0 : a1.eval (.tmp 27) = x.s.b.V x.s.o x.s.p := st.done 7 27 (hdep ⟨7, .data⟩ (by simp) rfl) rfl; exact AnyOrder.step_call rfl (AnyOrder.wanted_none rfl) 22 #[x.s.b.V x.s.o x.s.p] (by generalize a1.eval = ρ at ec ef e0 ⊢; simp [execOp, ec, ef, e0, go_sem]) (((index_any x.s.b x.s.o x.s.p w2)).mono (fun e w3 h => by obtain ⟨rfl, hb⟩ := h; exact ⟨_, rfl, st.inv.trans (hb.mono st.inv.size), hb, rfl⟩)))
    | 9, ho => (injection ho with ho; subst ho; have ec : ∀ v, a1.eval (.const v) = v := fun _ => rfl; have ef : ∀ f, a1.eval (.func f) = .func (.func f) #[] #[] := fun _ => rfl; have e0 : a1.eval (.tmp 22) = .int .i64 s.b.ix := st.done 2 22 (hdep ⟨2, .data⟩ (by simp) rfl) rfl; have e1 : a1.eval (.tmp 28) = .int .i64 x.s.b.ix := st.done 8 28 (hdep ⟨8, .data⟩ (by simp) rfl) rfl; exact AnyOrder.step_value rfl (AnyOrder.wanted_none rfl) (.bool false) (by generalize a1.eval = ρ at ec ef e0 e1 ⊢; simp [execOp, e0, e1, go_sem, hne]) st.inv (Below.refl _ _) rfl)
    | n + 10, ho => exact absurd hin (by omega)
  · intro w3 hJ3
    simp only [AnyOrder.finK, List.take_succ_cons, List.take_zero, List.drop_succ_cons, List.drop_zero, Act.put, List.setIfInBounds_toArray, List.set_cons_zero, List.set_cons_succ]
    have HM3 := Lib.hid (HM2.out.step hJ3)
    clear HM2 hJ3
    have HA3 : Hid (BAt w3 x.s.b x.s.o x.s.p) := Lib.hid (ha.chg HM3.out.chg HOFF.out)
    have HL := Lib.hid (hL w3 HM3.out.vt HA3.out)
    clear hL ha HA3 HOFF
    go_upto_region 7 with fail
    go_wp2_with (first | ((with_reducible apply wpList_load_cg (h := HM3.out.cg)); exact rfl; exact rfl; exact rfl) | ((with_reducible apply wpList_load_bk (h := HM3.out.bk)); exact rfl; exact rfl; exact rfl) | (go_at_call 32; (with_reducible refine HL.out.mono ?_)))
    rintro e4 w4 ⟨rfl, hb4⟩
    have HM4 := Lib.hid (HM3.out.step hb4)
    clear HM3 hb4 HL
    go_wp2_with fail
    go_ret
    exact ⟨rfl, HM4.out.vt, HM4.out.chg⟩
end Go.Proofs.YtlmdhkaplemjpaaGreat
