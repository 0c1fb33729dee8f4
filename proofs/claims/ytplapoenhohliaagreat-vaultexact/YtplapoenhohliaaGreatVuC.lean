import Derived.Test.YtplapoenhohliaaGreatVuB
import Derived.Test.YtplapoenhohliaaGreatKyR0
import Derived.Test.YtplapoenhohliaaGreatOrder7
import Derived.ArgAppend
namespace Go.Proofs.YtplapoenhohliaaGreat
open Go.RowKit Go.Lib
set_option linter.unusedVariables false
set_option linter.unusedSimpArgs false
structure Cu (w W : World) (q qc qk : Nat) (x : Uv) (ch : Cg) (k : Yr) : Prop where
 chg : Chg w W (fun j => j = q)
 uv : UvAt W q x
 cg : CgAt W qc ch
 yr : YrAt W qk k
theorem Cu.new {w : World} {q : Nat} {x : Uv} (h : UvAt w q x) (ch : Cg) (k : Yr) : Cu w ((w.alloc (.cells ch.cells 48)).alloc (.cells k.cs 68)) q w.heap.size (w.heap.size + 1) x ch k := by
 obtain ⟨h1, h2, h3⟩ := new2 w ch.cells k.cs 48 68
 exact ⟨Chg.ofBelow h1 _, At.step h h1, h2, h3⟩
theorem Cu.step {w W W' : World} {q qc qk : Nat} {x : Uv} {ch : Cg} {k : Yr} (h : Cu w W q qc qk x ch k) (hb : Below W.heap.size W W') : Cu w W' q qc qk x ch k := ⟨h.chg.trans (Chg.ofBelow hb (fun _ => False)) (fun _ _ h => h.elim), h.uv.step hb, h.cg.step hb, h.yr.step hb⟩
theorem Cu.put {w W W' : World} {q qc qk : Nat} {x x' : Uv} {ch : Cg} {k : Yr} (h : Cu w W q qc qk x ch k) (hc : Chg W W' (fun j => j = q)) (hv : UvAt W' q x') : Cu w W' q qc qk x' ch k :=
 ⟨h.chg.trans hc (fun _ _ e => e), hv, At.chg h.cg hc (At.ne h.cg h.uv (by decide)), At.chg h.yr hc (At.ne h.yr h.uv (by decide))⟩
def DuAt (b : U) (n : Int) (v : Value) (w : World) : Prop := ∃ s t, v = .tuple #[b.V s t, .int .i64 n] ∧ UAt w b s t
theorem DuAt.keep {b : U} {n : Int} {v : Value} {w w' : World} (h : DuAt b n v w) (hb : Below w.heap.size w w') : DuAt b n v w' := by
 obtain ⟨s, t, rfl, h⟩ := h
 exact ⟨s, t, rfl, h.step hb⟩
theorem run_allocU {ρ : Operand → Value} {w : World} {d : Option Tmp} {t : TypeId} {pos : String} {af : Array Edge} {gd : Option (Nat × Bool)} : (execOp ρ { dst := d, op := Op.alloc 65, type := t, pos := pos, after := af, guard := gd }).run Tryz.prog w = .ok (.value (ptr w.heap.size 0)) (w.alloc (.cells (zu.cells s0 s0) 65)) := by
 simp [execOp, go_sem]
 rfl
theorem uOff {w : World} {q : Nat} {t : TypeId} {cs : Array Value} (ha : At w q t cs) (h1 : t ≠ 46) {w' : World} (hc : Chg w w' (fun j => j = q)) {u : U} {s p : Sl} (h : UAt w u s p) : UAt w' u s p :=
 ⟨h.1.other hc.size (fun b cs hb => hc.block b hb.lt (fun e => At.ne hb ha (Ne.symm h1) e)), h.2.other hc.size (fun b cs hb => hc.block b hb.lt (fun e => At.ne hb ha (Ne.symm h1) e))⟩
set_option maxRecDepth 100000 in
set_option maxHeartbeats 1600000 in
theorem rcommit_stale {w : World} {q : Nat} {x : Uv} {ch : Cg} {n : Int} {k : Yr} (hu : UvAt w q x) (hi : n ≠ x.b.ix) : Calls Tryz.prog 19 #[ptr q 0, .int .i64 n, ch.V, k.V] w fun e w' => e = .returned (.int .i64 9) ∧ Below w.heap.size w w' := by
 obtain ⟨h1, _, _⟩ := new2 w ch.cells k.cs 48 68
 have HB := Lib.hid h1
 have k19 := UvAt.k19 (At.step hu h1)
 have hne : (n != x.b.ix) = true := by simpa using hi
 clear hu hi h1
 go_enter Tryz.func19, Tryz.ntmps19
 go_upto_region 1 with fail
 obtain ⟨W, hW⟩ : ∃ W, (w.alloc (.cells ch.cells 48)).alloc (.cells k.cs 68) = W := ⟨_, rfl⟩
 rw [hW] at HB k19 ⊢; clear hW
 go_wp2_with fail
 go_ret
 exact ⟨rfl, HB.out⟩
structure Tc (W W' : World) : Prop where
 os : W'.os = W.os
 tape : W'.tape = W.tape
 output : W'.output = W.output
 size : W.heap.size ≤ W'.heap.size
 block : ∀ k, k < W.heap.size → (∀ cs, ¬ At W k 48 cs) → W'.heap[k]? = W.heap[k]?
theorem emp {W : World} {B b : Nat} (hb : B ≤ b) (h : At W b 48 #[]) : Sh.Own eG W B (.slice (some ⟨b, 0, none⟩) 0 0) [] := ⟨rfl, .inr ⟨b, 0, #[], rfl, hb, h, Nat.le_refl _, by unfold maxLen; omega, rfl, rfl⟩⟩
theorem app_first {W : World} {B B' be : Nat} {u : Value} {xs : List Cg} (hB : B ≤ W.heap.size) (hbe : B ≤ be) (he : At W be 48 #[]) (hr : Sh.OwO eG W B' u xs) (hn : xs.length ≤ 1000) : ∃ v1 W1, (Builtin.append_ #[49, 49] 49 #[.slice (some ⟨be, 0, none⟩) 0 0, u]).run Tryz.prog W = .ok v1 W1 ∧ Sh.Own eG W1 B v1 xs ∧ Below W.heap.size W W1 := by
 obtain ⟨i, hi, hz, hsz, hb⟩ := eG.info
 rcases hr with ⟨rfl, rfl⟩ | ⟨g, off, cap, cur, rfl, _, ha, _, _, _, hx⟩
 ·exact ⟨_, W, run_append_owned_none (P := Tryz.prog) (w := W) B eG.ts 49 eG.e i eG.s eG.hts hi _ 0 [] (emp hbe he), emp hbe he, Below.refl _ _⟩
 ·by_cases h0 : xs = []
  ·subst h0
   exact ⟨_, W, run_append_room_cells (P := Tryz.prog) W eG.ts 49 eG.e i eG.hts hi be 0 0 0 ⟨g, off, none⟩ 0 cap [] (by simp) (by simp) (by simp) (by omega) (by simp) (by simp), emp hbe he, Below.refl _ _⟩
  ·have hpos := eG.pos
   have hnews : ∀ j y, (xs.flatMap eG.enc)[j]? = some y → W.cell? ((⟨g, off, none⟩ : Addr).add j) = some y := fun j y hy => by
    have hj : j < xs.length * eG.s := by have := (List.getElem?_eq_some_iff.1 hy).1; rwa [Sh.flat_length] at this
    have hq : j / eG.s < xs.length := Nat.div_lt_of_lt_mul (by rw [Nat.mul_comm]; exact hj)
    have hm : j % eG.s < eG.s := Nat.mod_lt _ hpos
    have hd : j / eG.s * eG.s + j % eG.s = j := by rw [Nat.mul_comm]; exact Nat.div_add_mod j eG.s
    have hx1 : xs[j / eG.s]? = some xs[j / eG.s] := List.getElem?_eq_getElem hq
    have hy2 : (eG.enc xs[j / eG.s])[j % eG.s]? = some y := by
     cases hh : (eG.enc xs[j / eG.s])[j % eG.s]? with
     | none => rw [List.getElem?_eq_none_iff, eG.len] at hh; omega
     | some y2 =>
      have := Sh.flat_get eG xs _ _ _ _ hx1 hh
      rw [hd, hy] at this
      exact this.symm ▸ rfl
    have := hx _ _ hx1 _ _ hy2
    rw [Sh.add_at, At.cell ha, ← hd, ← Nat.add_assoc]
    exact this
   have hl : 0 < xs.length := List.length_pos_iff.2 h0
   have hbb : (0 + xs.length) * eG.b ≤ 1000 * 1000 := Nat.mul_le_mul (by omega) eG.hb
   obtain ⟨v1, W1, h1, h2, h3⟩ := run_append_arg_grows (P := Tryz.prog) W eG.ts 49 eG.e i eG.z eG.s eG.b eG.hts hi hz hsz hb eG.zs hpos ⟨be, 0, none⟩ 0 0 [] (by simp) (by simp) ⟨g, off, none⟩ xs.length cap (xs.flatMap eG.enc) (Sh.flat_length eG xs) hnews (by omega) (by unfold maxLen; omega) (by omega)
   rw [Nat.zero_add, List.nil_append] at h2
   exact ⟨v1, W1, h1, (show Sh.Own eG W1 W.heap.size v1 xs from h2).mono hB, (Chg.grown h3).toBelow (Nat.le_refl _) (fun k _ e => by simp at e)⟩
def Gx (N : Nat) (xs : List Cg) (ch : Cg) (W W' : World) : Prop := Sh.Apd eG N xs ch W W' ∧ ∀ q, At W q 48 #[] → At W' q 48 #[]
theorem Gx.refl (N : Nat) (xs : List Cg) (ch : Cg) (W : World) : Gx N xs ch W W := ⟨Sh.Apd.refl _ _ _ _ _, fun _ h => h⟩
theorem Gx.of_below {N : Nat} {xs : List Cg} {ch : Cg} {W W' : World} (hb : Below W.heap.size W W') (hN : N ≤ W.heap.size) : Gx N xs ch W W' := ⟨Sh.Apd.of_below hb hN, fun _ h => At.below h hb (At.lt h)⟩
def PE (N : Nat) (v : Value) (w : World) : Prop := ∃ be, v = .slice (some ⟨be, 0, none⟩) 0 0 ∧ N ≤ be ∧ At w be 48 #[]
def PO (N : Nat) (xs : List Cg) (v : Value) (w : World) : Prop := Sh.Own eG w N v xs
def P1 (ch : Cg) (v : Value) (w : World) : Prop := ∃ q, v = .slice (some ⟨q, 0, none⟩) 1 1 ∧ At w q eG.e (eG.enc ch).toArray
section
variable {N : Nat} {xs : List Cg} {ch : Cg} {v : Value} {w w' : World}
theorem PE.keep (h : PE N v w) (hb : Gx N xs ch w w') : PE N v w' := by
 obtain ⟨q, e, hq, h⟩ := h
 exact ⟨q, e, hq, hb.2 q h⟩
theorem PO.old (h : PO N xs v w) (hb : Gx N xs ch w w') : PO N xs v w' := hb.1.old v h
theorem PO.new (h : PO N (xs ++ [ch]) v w) (hb : Gx N xs ch w w') : PO N (xs ++ [ch]) v w' := hb.1.new v h
theorem P1.keep (h : P1 ch v w) (hb : Gx N xs ch w w') : P1 ch v w' := by
 obtain ⟨q, rfl, h⟩ := h
 exact ⟨q, rfl, hb.1.one q h⟩
theorem P1.made (w : World) (ch : Cg) : P1 ch (.slice (some ⟨w.heap.size, 0, none⟩) 1 1) (w.alloc (.cells ch.cells 48)) := ⟨w.heap.size, rfl, At.new w 48 ch.cells⟩
theorem PE.made (hN : N ≤ w.heap.size) : PE N (.slice (some ⟨w.heap.size, 0, none⟩) 0 0) (w.alloc (.cells #[] 48)) := ⟨w.heap.size, rfl, hN, At.new w 48 #[]⟩
theorem P1.cell {q : Nat} (h : At w q eG.e (eG.enc ch).toArray) : ∀ j v, (eG.enc ch)[j]? = some v → w.cell? ⟨q, 0 + j, none⟩ = some v := by
 intro j v hv
 rw [Nat.zero_add, At.cell h]
 simpa using hv
theorem push_gx (h : Sh.Own eG w N v xs) (hB : N ≤ w.heap.size) {q : Nat} (hq : At w q eG.e (eG.enc ch).toArray) (hn : xs.length ≤ 1000) :
  ∃ v' w', (Builtin.append_ #[49, 49] 49 #[v, .slice (some ⟨q, 0, none⟩) 1 1]).run Tryz.prog w = .ok v' w' ∧ Sh.Own eG w' N v' (xs ++ [ch]) ∧ Gx N xs ch w w' := by
 obtain ⟨v', w', hr, ho, ha⟩ := Sh.Own.push_apd (cap := 1) h hB (P1.cell hq) (by omega) 49
 obtain ⟨_, _, hr2, _, hc2, _⟩ := h.push (x := ch) hB (b := q) (off := 0) (cap := 1) (P1.cell hq) (by omega) 49
 rw [hr] at hr2
 injection hr2 with e1 e2
 subst e1; subst e2
 refine ⟨v', w', hr, ho, ha, fun r hr' => ?_⟩
 rcases h.push_ways hB (P1.cell hq) (by omega) 49 hr with hb | ⟨g, cp, cur, rfl, rfl, hg, hcs, hroom, hw⟩
 ·exact At.below hr' hb (At.lt hr')
 ·refine At.chg hr' hc2 (fun e => ?_)
  have e : g = r := by simpa [Value.ownBlock] using e
  subst e
  have e : Obj.cells cur eG.e (0, 0) = Obj.cells #[] 48 (0, 0) := Option.some.inj (hg.symm.trans hr')
  injection e with e
  subst e
  have h1 : 0 = cp * 11 := hcs
  omega
end
section
variable {ρ : Operand → Value} {w w' : World} {x y : Tmp} {d : Option Tmp} {t : TypeId} {pos : String} {af : Array Edge} {gd : Option (Nat × Bool)}
theorem run_slice_cg {c : Cg} (e : ρ (.tmp x) = c.V) : (execOp ρ { dst := d, op := Op.buildSlice 49 1 #[(0, .tmp x)], type := t, pos := pos, after := af, guard := gd }).run Tryz.prog w = .ok (.value (.slice (some ⟨w.heap.size, 0, none⟩) 1 1)) (w.alloc (.cells c.cells 48)) := by
 obtain ⟨ie, hie, hz, hsz, _⟩ := Sh.info_of (e := 48) (z := .agg Z11) (s := 11) (b := 88) (by kernel_rfl)
 have hf : Instr.fill (fun i => some (i * ie.size, ie.size)) ((Array.range (1 * ie.size)).map ((Value.agg Z11).cells[· % (Value.agg Z11).cells.size]!)) ((#[(0, Operand.tmp x)] : Array (Nat × Operand)).map fun (i, u) => (i, ρ u)).toList = some c.cells := by
  rw [hsz]
  simp only [List.map_toArray, List.map_cons, List.map_nil, e]
  kernel_rfl
 unfold execOp
 simp only [Sem.run_bind, run_buildSlice w 49 48 1 _ c.cells ie (.agg Z11) Tryz.underlying49 hie hz (by rw [hsz]; decide) (by rw [hsz]; decide) hf, Result.andThen_ok, Sem.run_pure]
theorem run_slice_e : (execOp ρ { dst := d, op := Op.buildSlice 49 0 #[], type := t, pos := pos, after := af, guard := gd }).run Tryz.prog w = .ok (.value (.slice (some ⟨w.heap.size, 0, none⟩) 0 0)) (w.alloc (.cells #[] 48)) := by
 simp [execOp, go_sem]
theorem run_append_cg {vs vx v' : Value} (e1 : ρ (.tmp x) = vs) (e2 : ρ (.tmp y) = vx) (hr : (Builtin.append_ #[49, 49] t #[vs, vx]).run Tryz.prog w = .ok v' w') :
  (execOp ρ { dst := d, op := Op.call { callee := Callee.builtin Builtin.append, args := #[Operand.tmp x, Operand.tmp y], argTypes := #[49, 49] }, type := t, pos := pos, after := af, guard := gd }).run Tryz.prog w = .ok (.value v') w' := by
 unfold execOp
 simp only [resolve, invoke, builtin, Sem.run_bind, Sem.run_pure, Result.andThen_ok, List.map_toArray, List.map_cons, List.map_nil, e1, e2, hr]
end
theorem rfin {w w5 W2 : World} {q B : Nat} {x : Uv} {b' : U} {s2 t2 : Sl} {v' : Value} {xs : List Cg} {ch : Cg} (hu : UvAt w5 q ⟨b', s2, t2, x.k, x.now, x.v⟩) (ha : UAt w5 b' s2 t2) (hc : Chg w w5 (fun j => j = q)) (h5 : B ≤ w5.heap.size) (ho : Sh.OwO eG W2 w5.heap.size v' (xs ++ [ch])) (hl : Below w5.heap.size w5 W2) : ∃ s t v'', UvAt (W2.setCell ⟨q, 46, none⟩ v') q ⟨b', s, t, x.k, x.now, v''⟩ ∧ UAt (W2.setCell ⟨q, 46, none⟩ v') b' s t ∧ Sh.OwO eG (W2.setCell ⟨q, 46, none⟩ v') B v'' (xs ++ [ch]) ∧ (∀ k, v''.ownBlock = some k → w.heap.size ≤ k) ∧ Chg w (W2.setCell ⟨q, 46, none⟩ v') (fun j => j = q) := by
 have hu2 := At.step hu hl
 have hs := chg_setCell W2 q 46 v'
 exact ⟨s2, t2, v', UvAt.setV hu2 _, uOff hu2 (by decide) hs (ha.step hl), (ho.mono h5).chg hs (fun k hk e => ho.ty hu2 (show eG.e ≠ _ from by decide) ((show k = q from e) ▸ hk)), fun k hk => Nat.le_trans hc.size (ho.lt hk).1, (hc.trans (Chg.ofBelow hl (fun _ => False)) (fun _ _ h => h.elim)).trans hs (fun _ _ e => e)⟩
set_option maxRecDepth 100000 in
set_option maxHeartbeats 6400000 in
theorem rcommit_ok {w : World} {q B : Nat} {x : Uv} {ch : Cg} {b' : U} {xs : List Cg} (hu : UvAt w q x) (ha : UAt w x.b x.s x.t) (hok : x.b.Ok) (hap : applyU x.b ch = (b', 0)) (ho : Sh.OwO eG w B x.v xs) (hB : B ≤ w.heap.size) (hq : B ≤ q) (hn : xs.length ≤ 1000) : Calls Tryz.prog 19 #[ptr q 0, .int .i64 x.b.ix, ch.V, x.k.V] w fun e w' => e = .returned (.int .i64 0) ∧ ∃ s t v', UvAt w' q ⟨b', s, t, x.k, x.now, v'⟩ ∧ UAt w' b' s t ∧ Sh.OwO eG w' B v' (xs ++ [ch]) ∧ (∀ k, v'.ownBlock = some k → w.heap.size ≤ k) ∧ Chg w w' (fun j => j = q) := by
 have HM := Lib.hid (Cu.new hu ch x.k)
 have HA := Lib.hid (ha.step (new2 w ch.cells x.k.cs 48 68).1)
 have CY := Lib.hid (fun (W : World) (hb : UAt W x.b x.s x.t) => applyU_any (x := ch) hb hok)
 rw [hap] at CY
 have HO := Lib.hid ho; have HLB := Lib.hid hB; have HLN := Lib.hid hn; have HUQ := Lib.hid hu
 clear ha hok hap ho hB hn
 have hne : (x.b.ix != x.b.ix) = false := by simp
 go_enter Tryz.func19, Tryz.ntmps19
 go_upto_region 1 with fail
 obtain ⟨W, hW⟩ : ∃ W, (w.alloc (.cells ch.cells 48)).alloc (.cells x.k.cs 68) = W := ⟨_, rfl⟩
 rw [hW] at HM HA ⊢; clear hW
 have HS := Lib.hid (show w.heap.size ≤ w.heap.size from Nat.le_refl _)
 obtain ⟨qk, hqk⟩ : ∃ qk, w.heap.size + 1 = qk := ⟨_, rfl⟩
 obtain ⟨qc, hqc⟩ : ∃ qc, w.heap.size = qc := ⟨_, rfl⟩
 rw [hqk] at HM ⊢
 rw [hqc] at HM ⊢
 have HQC := Lib.hid hqc; clear hqk hqc
 have k19 := UvAt.k19 HM.out.uv
 go_upto_region 3 with fail
 clear k19 hne
 refine wp_region_noPanic ?_
 refine AnyOrder.region_late 10 [.eq (ptr q 0), .eq (ptr q 0), .eq (ptr q 0), .eq (x.b.V x.s x.t), .eq (ch.V), .of (DuAt b' 0), .of (DuAt b' 0), .of (UbAt b'), .eq (.int .i64 0), .of (AnyOrder.Fresh W 65 (zu.cells s0 s0))] [8] (fun wx => Below W.heap.size W wx) (by kernel_rfl) (by kernel_rfl) rfl (by kernel_rfl) (by kernel_rfl) (fun _ _ _ _ _ h => h) (below_drewN (Below.refl _ _) 1) (by intro p wa wb hp hj hb v hv; simp at hp; rcases hp with rfl | rfl | rfl | rfl <;> (first | exact DuAt.keep hv hb | exact DuAt.keep hv hb | exact UbAt.keep hv hb | exact AnyOrder.Fresh.keep hv hb | fail)) ?_ ?_ ?_
 ·intro f o hL ho
  have hL : f = 8 := by simpa using hL
  rcases hL with rfl
  ·injection ho with ho; subst ho; exact ⟨_, rfl, rfl, fun a w hd w9 => by obtain ⟨o4, p4, e18, h18⟩ := hd 6 18 (by decide) (by decide) rfl; generalize a.eval = ρ at e18 ⊢; simp [execOp, e18, go_sem]⟩
 ·intro i o listed a1 w2 hin ho st hl hdep
  match i, ho with
  | 0, ho => (injection ho with ho; subst ho; have e0 : a1.eval (.tmp 0) = ptr q 0 := st.old hl 0 (by kernel_rfl); exact AnyOrder.sv rfl rfl (ptr q 0) (AnyOrder.run_move e0) st.inv (Below.refl _ _) rfl)
  | 1, ho => (injection ho with ho; subst ho; have ec := AnyOrder.evc a1; have ef := AnyOrder.evf a1; have e0 : a1.eval (.tmp 19) = ptr q 0 := st.done 0 19 (hdep ⟨0, .data⟩ (by simp) rfl) rfl; exact AnyOrder.sv rfl rfl (ptr q 0) (by generalize a1.eval = ρ at ec ef e0 ⊢; simp [execOp, ec, ef, e0, IntWalk.i64_left, go_sem]) st.inv (Below.refl _ _) rfl)
  | 2, ho => (injection ho with ho; subst ho; have ec := AnyOrder.evc a1; have ef := AnyOrder.evf a1; have e0 : a1.eval (.tmp 20) = ptr q 0 := st.done 1 20 (hdep ⟨1, .data⟩ (by simp) rfl) rfl; exact AnyOrder.sv rfl rfl (ptr q 0) (by generalize a1.eval = ρ at ec ef e0 ⊢; simp [execOp, ec, ef, e0, IntWalk.i64_left, go_sem]) st.inv (Below.refl _ _) rfl)
  | 3, ho => (injection ho with ho; subst ho; have e0 : a1.eval (.tmp 21) = ptr q 0 := st.done 2 21 (hdep ⟨2, .data⟩ (by simp) rfl) rfl; exact AnyOrder.sv rfl rfl (x.b.V x.s x.t) (run_load_um e0 (UvAt.bk (At.step HM.out.uv st.inv))) st.inv (Below.refl _ _) rfl)
  | 4, ho => (injection ho with ho; subst ho; have e0 : a1.eval (.tmp 6) = ptr qc 0 := st.old hl 6 (by kernel_rfl); exact AnyOrder.sv rfl rfl (ch.V) (run_load_cg e0 (At.step HM.out.cg st.inv)) st.inv (Below.refl _ _) rfl)
  | 5, ho => (injection ho with ho; subst ho; have ec := AnyOrder.evc a1; have ef := AnyOrder.evf a1; have e0 : a1.eval (.tmp 22) = x.b.V x.s x.t := st.done 3 22 (hdep ⟨3, .data⟩ (by simp) rfl) rfl; have e1 : a1.eval (.tmp 23) = ch.V := st.done 4 23 (hdep ⟨4, .data⟩ (by simp) rfl) rfl; exact AnyOrder.step_call rfl (AnyOrder.wanted_none rfl) 39 #[x.b.V x.s x.t, ch.V] (by generalize a1.eval = ρ at ec ef e0 e1 ⊢; simp [execOp, ec, ef, e0, e1, go_sem]) ((CY.out _ (HA.out.step st.inv)).mono (fun e w4 h => by obtain ⟨o4, p4, rfl, ha, hb⟩ := h; exact ⟨_, rfl, st.inv.trans (hb.mono st.inv.size), hb, o4, p4, rfl, ha⟩)))
  | 6, ho => (injection ho with ho; subst ho; have e0 := st.done 5 24 (hdep ⟨5, .data⟩ (by simp) rfl) rfl; obtain ⟨v18, e18⟩ : ∃ v, a1.eval (.tmp 24) = v := ⟨_, rfl⟩; rw [e18] at e0; exact AnyOrder.sv rfl rfl v18 (AnyOrder.run_move e18) st.inv (Below.refl _ _) e0)
  | 7, ho => (injection ho with ho; subst ho; have ec := AnyOrder.evc a1; have ef := AnyOrder.evf a1; have e0 := st.done 6 18 (hdep ⟨6, .data⟩ (by simp) rfl) rfl; obtain ⟨o4, p4, e18, h18⟩ := e0; exact AnyOrder.sv rfl rfl (b'.V o4 p4) (by generalize a1.eval = ρ at ec ef e18 ⊢; simp [execOp, e18, go_sem]) st.inv (Below.refl _ _) ⟨o4, p4, rfl, h18⟩)
  | 8, ho => (injection ho with ho; subst ho; have ec := AnyOrder.evc a1; have ef := AnyOrder.evf a1; have e0 := st.done 6 18 (hdep ⟨6, .data⟩ (by simp) rfl) rfl; obtain ⟨o4, p4, e18, h18⟩ := e0; exact AnyOrder.sv rfl rfl _ (by generalize a1.eval = ρ at ec ef e18 ⊢; simp [execOp, e18, go_sem]) st.inv (Below.refl _ _) rfl)
  | 9, ho => (injection ho with ho; subst ho; exact AnyOrder.sv rfl rfl (ptr w2.heap.size 0) run_allocU (st.inv.alloc st.inv.size _) (below_new _ _) ⟨_, rfl, st.inv.size, by simp, heap_alloc_new _ _⟩)
  | n + 10, ho => exact absurd hin (by omega)
 ·intro wy hJ
  simp only [AnyOrder.finK, List.take_succ_cons, List.take_zero, List.drop_succ_cons, List.drop_zero, Act.put, List.setIfInBounds_toArray, List.set_cons_zero, List.set_cons_succ]
  intro v5 h5 v6 h6 v7 h7 v9 h9
  clear h5 h6
  obtain ⟨s2, t2, rfl, h4⟩ := h7
  obtain ⟨q17, rfl, l21, l22, l23⟩ := h9
  have HQ1 : Hid (UkAt wy q17 zu s0 s0) := Lib.hid l23
  have H1 := Lib.hid (HM.out.step hJ)
  have c17 := chg_row wy q17 (b'.cells s2 t2)
  have hq17 : ¬ q = q17 := At.ne H1.out.uv HQ1.out (by decide)
  have hlo : w.heap.size ≤ q17 := Nat.le_trans HM.out.chg.size l21
  have HM2 : Hid (Cu w (wy.setRow q17 (b'.cells s2 t2)) q qc qk x ch x.k) := Lib.hid ⟨H1.out.chg.trans c17 (fun i hi e => by omega), At.chg H1.out.uv c17 hq17, At.chg H1.out.cg c17 (At.ne H1.out.cg HQ1.out (by decide)), At.chg H1.out.yr c17 (At.ne H1.out.yr HQ1.out (by decide))⟩
  have HK2 : Hid (UkAt (wy.setRow q17 (b'.cells s2 t2)) q17 b' s2 t2) := Lib.hid (At.setRow HQ1.out _)
  have HA2 := Lib.hid (uOff HQ1.out (by decide) c17 h4)
  clear h4 l21 l22 l23 hJ HM HA CY H1 c17 hq17 hlo
  go_wp2_with ((with_reducible apply wpList_store_uk (b := b') (s := s2) (t := t2) (hq := HQ1.out)); exact rfl; exact rfl; exact rfl; exact rfl)
  refine NoPanic.normal ?_
  obtain ⟨w3, hw3⟩ : ∃ w3, (wy.setRow q17 (b'.cells s2 t2)) = w3 := ⟨_, rfl⟩
  rw [hw3] at HM2 HK2 HA2 ⊢; clear hw3 HQ1
  have HTH := Lib.hid (there_at HM2.out.uv (o := 0) (n := 26) (by rw [Uv.size]; omega))
  go_upto_region 7 with (first | ((with_reducible apply wpList_load_uk (h := HK2.out)); exact rfl; exact rfl; exact rfl) | ((with_reducible apply wpList_store_um (b := b') (s := s2) (t := t2) (ht := HTH.out)); exact rfl; exact rfl; exact rfl; exact rfl))
  have cb := chg_setCells w3 q (b'.cells s2 t2).toList 0 w3
  have HM3 := Lib.hid (HM2.out.put cb (UvAt.setB HM2.out.uv b' s2 t2))
  have HA3 := Lib.hid (uOff HM2.out.uv (by decide) cb HA2.out)
  obtain ⟨w4, hw4⟩ : ∃ w4, w3.setCells q 0 (b'.cells s2 t2).toList = w4 := ⟨_, rfl⟩
  rw [hw4] at HM3 HA3 ⊢; clear hw4 cb HM2 HK2 HA2 HTH
  have HYR : Hid (w4.rangeAt qk 0 x.k.cs.toList) := Lib.hid (fun j u hu => by rw [At.cell HM3.out.yr, Nat.zero_add]; simpa using hu)
  have HTH := Lib.hid (there_at HM3.out.uv (o := 26) (n := 19) (by rw [Uv.size]; omega))
  go_upto_region 8 with (first | ((with_reducible apply wpList_load_yr (c := x.k) (h := HYR.out)); exact rfl; exact rfl; exact rfl) | ((with_reducible apply wpList_store_yr (c := x.k) (ht := HTH.out)); exact rfl; exact rfl; exact rfl; exact rfl))
  have cb := chg_setCells w4 q x.k.cs.toList 26 w4
  have HM4 := Lib.hid (HM3.out.put cb (UvAt.setK HM3.out.uv x.k))
  have HA4 := Lib.hid (uOff HM3.out.uv (by decide) cb HA3.out)
  obtain ⟨w5, hw5⟩ : ∃ w5, w4.setCells q 26 x.k.cs.toList = w5 := ⟨_, rfl⟩
  rw [hw5] at HM4 HA4 ⊢; clear hw5 cb HM3 HA3 HYR HTH
  have HO5 : Hid (Sh.OwO eG w5 B x.v xs) := Lib.hid (HO.out.chg HM4.out.chg (fun k hk e => HO.out.ty HUQ.out (show eG.e ≠ _ from by decide) (e ▸ hk)))
  have HB5 : Hid (B ≤ w5.heap.size) := Lib.hid (Nat.le_trans HLB.out HM4.out.chg.size)
  have HUV : Hid (UvAt w5 q ⟨b', s2, t2, x.k, x.now, x.v⟩) := Lib.hid HM4.out.uv
  have HK := Lib.hid HM4.out.cg
  refine AnyOrder.region_kindsC 10 [.eq (ptr q 0), .of (PE w5.heap.size), .eq (ptr q 0), .eq (ptr q 0), .eq (ptr q 46), .eq (x.v), .of (PO w5.heap.size xs), .eq (ch.V), .of (P1 ch), .of (PO w5.heap.size (xs ++ [ch]))] (fun wx => Below w5.heap.size w5 wx) (Gx w5.heap.size xs ch) (by kernel_rfl) (by kernel_rfl) rfl (by kernel_rfl) (below_drewN (Below.refl _ _) 1) (by intro p wa wb hp hj hb v hv; simp at hp; rcases hp with rfl | rfl | rfl | rfl <;> (first | exact PE.keep hv hb | exact PO.old hv hb | exact P1.keep hv hb | exact PO.new hv hb | fail)) ?_ ?_
  ·intro i o listed a1 w2 hin ho st hl hdep
   match i, ho with
   | 0, ho => (injection ho with ho; subst ho; have e0 : a1.eval (.tmp 0) = ptr q 0 := st.old hl 0 (by kernel_rfl); exact AnyOrder.step_valueG rfl (AnyOrder.wanted_none rfl) (ptr q 0) (AnyOrder.run_move e0) st.inv (Gx.refl _ _ _ _) rfl)
   | 1, ho => (injection ho with ho; subst ho; exact AnyOrder.step_valueG rfl (AnyOrder.wanted_none rfl) _ run_slice_e (st.inv.alloc st.inv.size _) (Gx.of_below (below_new _ _) st.inv.size) (PE.made st.inv.size))
   | 2, ho => (injection ho with ho; subst ho; have e0 : a1.eval (.tmp 0) = ptr q 0 := st.old hl 0 (by kernel_rfl); exact AnyOrder.step_valueG rfl (AnyOrder.wanted_none rfl) (ptr q 0) (AnyOrder.run_move e0) st.inv (Gx.refl _ _ _ _) rfl)
   | 3, ho => (injection ho with ho; subst ho; have ec := AnyOrder.evc a1; have ef := AnyOrder.evf a1; have e0 : a1.eval (.tmp 39) = ptr q 0 := st.done 2 39 (hdep ⟨2, .data⟩ (by simp) rfl) rfl; exact AnyOrder.step_valueG rfl (AnyOrder.wanted_none rfl) (ptr q 0) (by generalize a1.eval = ρ at ec ef e0 ⊢; simp [execOp, ec, ef, e0, IntWalk.i64_left, go_sem]) st.inv (Gx.refl _ _ _ _) rfl)
   | 4, ho => (injection ho with ho; subst ho; have ec := AnyOrder.evc a1; have ef := AnyOrder.evf a1; have e0 : a1.eval (.tmp 40) = ptr q 0 := st.done 3 40 (hdep ⟨3, .data⟩ (by simp) rfl) rfl; exact AnyOrder.step_valueG rfl (AnyOrder.wanted_none rfl) (ptr q 46) (by generalize a1.eval = ρ at ec ef e0 ⊢; simp [execOp, ec, ef, e0, IntWalk.i64_left, go_sem]) st.inv (Gx.refl _ _ _ _) rfl)
   | 5, ho => (injection ho with ho; subst ho; have ec := AnyOrder.evc a1; have ef := AnyOrder.evf a1; have e0 : a1.eval (.tmp 41) = ptr q 46 := st.done 4 41 (hdep ⟨4, .data⟩ (by simp) rfl) rfl; exact AnyOrder.step_valueG rfl (AnyOrder.wanted_none rfl) (x.v) (by have hk := UvAt.k46 (x := ⟨b', s2, t2, x.k, x.now, x.v⟩) (At.step HUV.out st.inv); generalize a1.eval = ρ at ec ef e0 ⊢; simp [execOp, e0, go_sem, hk]) st.inv (Gx.refl _ _ _ _) rfl)
   | 6, ho => (injection ho with ho; subst ho; have e0 := st.done 1 38 (hdep ⟨1, .data⟩ (by simp) rfl) rfl; have e1 : a1.eval (.tmp 42) = x.v := st.done 5 42 (hdep ⟨5, .data⟩ (by simp) rfl) rfl; obtain ⟨be, eb, hbe, hbt⟩ := e0; obtain ⟨v19, w7, hr, ho, hb7⟩ := app_first st.inv.size hbe hbt (HO5.out.below st.inv) HLN.out; exact AnyOrder.step_valueG rfl (AnyOrder.wanted_none rfl) v19 (run_append_cg eb e1 hr) (st.inv.trans (hb7.mono st.inv.size)) (Gx.of_below hb7 st.inv.size) ho)
   | 7, ho => (injection ho with ho; subst ho; have e0 : a1.eval (.tmp 6) = ptr qc 0 := st.old hl 6 (by kernel_rfl); exact AnyOrder.step_valueG rfl (AnyOrder.wanted_none rfl) (ch.V) (run_load_cg e0 (At.step HK.out st.inv)) st.inv (Gx.refl _ _ _ _) rfl)
   | 8, ho => (injection ho with ho; subst ho; have e0 : a1.eval (.tmp 44) = ch.V := st.done 7 44 (hdep ⟨7, .data⟩ (by simp) rfl) rfl; exact AnyOrder.step_valueG rfl (AnyOrder.wanted_none rfl) _ (run_slice_cg e0) (st.inv.alloc st.inv.size _) (Gx.of_below (below_new _ _) st.inv.size) (P1.made w2 ch))
   | 9, ho => (injection ho with ho; subst ho; have e0 := st.done 6 43 (hdep ⟨6, .data⟩ (by simp) rfl) rfl; have e1 := st.done 8 45 (hdep ⟨8, .data⟩ (by simp) rfl) rfl; obtain ⟨v18, e18⟩ : ∃ v, a1.eval (.tmp 43) = v := ⟨_, rfl⟩; rw [e18] at e0; have e0 : Sh.Own eG w2 w5.heap.size v18 xs := e0; obtain ⟨p, ep, hp⟩ := e1; obtain ⟨v19, w7, hr, ho, ha⟩ := push_gx e0 st.inv.size hp HLN.out; exact AnyOrder.step_valueG rfl (AnyOrder.wanted_none rfl) v19 (run_append_cg e18 ep hr) (st.inv.trans ha.1.bel) ha ho)
   | n + 10, ho => exact absurd hin (by omega)
  ·intro w6 hJ6
   simp only [AnyOrder.finK, List.take_succ_cons, List.take_zero, List.drop_succ_cons, List.drop_zero, Act.put, List.setIfInBounds_toArray, List.set_cons_zero, List.set_cons_succ]
   intro v1 h1 v6 h6 v8 h8 v9 h9
   clear h1 h6 h8
   have HW9 := Lib.hid (Sh.Own.owO h9)
   obtain ⟨O9, c9, e9, _⟩ := HW9.out.form
   subst e9
   obtain ⟨n9, hn9⟩ : ∃ n, (xs ++ [ch]).length = n := ⟨_, rfl⟩
   rw [hn9] at HW9 ⊢
   clear hn9 h9
   have f46 := At.frozen (At.step HUV.out hJ6) 46
   have k46 := UvAt.k46 (x := ⟨b', s2, t2, x.k, x.now, x.v⟩) (At.step HUV.out hJ6)
   have HF := Lib.hid (rfin HUV.out HA4.out HM4.out.chg HB5.out HW9.out hJ6)
   clear HUV HA4 HM4 HB5 HW9 hJ6 HO5 HK
   go_wp2_with fail
   go_ret
   obtain ⟨⟨s8, s9⟩, ⟨t8, t9⟩, v9, F9⟩ := HF.out
   exact ⟨rfl, s8, s9, t8, t9, v9, F9⟩
end Go.Proofs.YtplapoenhohliaaGreat
