import Derived.Test.YtplapoenhohliaaGreatVtD
import Derived.Test.YtplapoenhohliaaGreatOrder4
namespace Go.Proofs.YtplapoenhohliaaGreat
open Go.RowKit Go.Lib
set_option linter.unusedVariables false
set_option linter.unusedSimpArgs false
def eG : Sh.El Cg := ⟨49, 48, 11, 88, .agg zg.cells, fun x => x.cells.toList, fun _ => rfl, by simp [Cg.cells, Value.oneCell'], by decide, Tryz.underlying49, Sh.info_of (by kernel_rfl), rfl, by decide⟩
theorem run_load_cgr {ρ : Operand → Value} {w : World} {x : Tmp} {g off : Nat} {c : Cg} {d : Option Tmp} {t : TypeId} {pos : String} {af : Array Edge} {gd : Option (Nat × Bool)} (e : ρ (.tmp x) = ptr g off) (h : w.rangeAt g off c.cells.toList) :
  (execOp ρ { dst := d, op := Op.load 48 (.tmp x), type := t, pos := pos, after := af, guard := gd }).run Tryz.prog w = .ok (.value c.V) w := by
 unfold execOp
 simp only [e, Instr.loadAt, Instr.sureAddr, Sem.run_bind, Sem.run_pure, Result.andThen_ok, run_loadVar_mid (P := Tryz.prog) w g off 48 _ _ h Tryz.underlying48 rfl (size39 c), Array.toArray_toList]
def DvAt (b : Bk) (n : Int) (v : Value) (w : World) : Prop := ∃ o p, v = .tuple #[b.V o p, .int .i64 n] ∧ BAt w b o p
theorem DvAt.keep {b : Bk} {n : Int} {v : Value} {w w' : World} (h : DvAt b n v w) (hb : Below w.heap.size w w') : DvAt b n v w' := by
 obtain ⟨o, p, rfl, h⟩ := h
 exact ⟨o, p, rfl, h.step hb⟩
theorem row_at {w : World} {O : Option Addr} {n cap i : Nat} {xs : List Cg} {x : Cg} (h : Sh.Rd eG w (.slice O n cap) xs) (hx : xs[i]? = some x) : ∃ b off, O = some ⟨b, off, none⟩ ∧ b < w.heap.size ∧ w.rangeAt b (off + i * 11) x.cells.toList := by
 obtain ⟨O', cap', e, _, k⟩ := h
 injection e with e
 subst e
 exact k i x hx
structure EtS (w W : World) (g s : Nat) (a b : Bk) (o p o' p' : Option Addr) : Prop where
 bel : Below w.heap.size w W
 bk : BkAt W g a o p
 bk2 : BkAt W s b o' p'
theorem EtS.new (w : World) (a b : Bk) (o p o' p' : Option Addr) : EtS w ((w.alloc (.cells (a.cells o p) 37)).alloc (.cells (b.cells o' p') 37)) w.heap.size (w.heap.size + 1) a b o p o' p' := by
 obtain ⟨h1, h2, h3⟩ := new2 w (a.cells o p) (b.cells o' p') 37 37
 exact ⟨h1, h2, h3⟩
set_option maxRecDepth 100000 in
set_option maxHeartbeats 1600000 in
theorem same_ix {a b : Bk} {o p o' p' : Option Addr} {w : World} (hc : a.c = b.c) (hi : a.ix ≠ b.ix) : Calls Tryz.prog 45 #[a.V o p, b.V o' p'] w (Yes w false) := by
 have HT := Lib.hid (EtS.new w a b o p o' p')
 have hd : (a.ix == b.ix) = false := by simpa using hi
 have HC := Lib.hid hc; clear hc hi
 go_enter Tryz.func45, Tryz.ntmps45
 go_upto_region 1 with fail
 obtain ⟨W, hW⟩ : ∃ W, (w.alloc (.cells (a.cells o p) 37)).alloc (.cells (b.cells o' p') 37) = W := ⟨_, rfl⟩
 rw [hW] at HT ⊢; clear hW
 generalize w.heap.size + 1 = s at HT ⊢
 generalize w.heap.size = g at HT ⊢
 refine AnyOrder.region_kinds2 33 [.eq (ptr g 0), .eq (a.c.V), .eq (ptr s 0), .eq (a.c.V), .eq (.bool true), .eq (.bool true), .eq (ptr g 18), .eq (.int .i64 a.ix), .eq (ptr s 18), .eq (.int .i64 b.ix), .eq (.bool false), .eq (.bool false), .eq (.bool false), .eq (undef), .eq (undef), .eq (undef), .eq (undef), .eq (undef), .eq (.bool false), .eq (.bool false), .eq (undef), .eq (undef), .eq (undef), .eq (undef), .eq (undef), .eq (.bool false), .eq (.bool false), .eq (undef), .eq (undef), .eq (undef), .eq (undef), .eq (undef), .eq (.bool false)] (fun wx => Below W.heap.size W wx) (by kernel_rfl) (by kernel_rfl) rfl (by kernel_rfl) (below_drewN (Below.refl _ _) 1) (fun p _ _ hp => by simp at hp) ?_ ?_
 ·intro i o listed a1 w2 hin ho st hl hdep
  match i, ho with
  | 0, ho => (injection ho with ho; subst ho; have ec := AnyOrder.evc a1; have ef := AnyOrder.evf a1; have e0 : a1.eval (.tmp 2) = ptr g 0 := st.old hl 2 (by kernel_rfl); exact AnyOrder.sv rfl rfl (ptr g 0) (by generalize a1.eval = ρ at ec ef e0 ⊢; simp [execOp, ec, ef, e0, IntWalk.i64_left, go_sem]) st.inv (Below.refl _ _) rfl)
  | 1, ho => (injection ho with ho; subst ho; have e0 : a1.eval (.tmp 5) = ptr g 0 := st.done 0 5 (hdep ⟨0, .data⟩ (by simp) rfl) rfl; exact AnyOrder.sv rfl rfl (a.c.V) (run_load_cp e0 (BkAt.kc (At.step HT.out.bk st.inv))) st.inv (Below.refl _ _) rfl)
  | 2, ho => (injection ho with ho; subst ho; have ec := AnyOrder.evc a1; have ef := AnyOrder.evf a1; have e0 : a1.eval (.tmp 3) = ptr s 0 := st.old hl 3 (by kernel_rfl); exact AnyOrder.sv rfl rfl (ptr s 0) (by generalize a1.eval = ρ at ec ef e0 ⊢; simp [execOp, ec, ef, e0, IntWalk.i64_left, go_sem]) st.inv (Below.refl _ _) rfl)
  | 3, ho => (injection ho with ho; subst ho; have e0 : a1.eval (.tmp 7) = ptr s 0 := st.done 2 7 (hdep ⟨2, .data⟩ (by simp) rfl) rfl; exact AnyOrder.sv rfl rfl (a.c.V) (by rw [HC.out]; exact run_load_cp e0 (BkAt.kc (At.step HT.out.bk2 st.inv))) st.inv (Below.refl _ _) rfl)
  | 4, ho => (injection ho with ho; subst ho; have e0 : a1.eval (.tmp 6) = a.c.V := st.done 1 6 (hdep ⟨1, .data⟩ (by simp) rfl) rfl; have e1 : a1.eval (.tmp 8) = a.c.V := st.done 3 8 (hdep ⟨3, .data⟩ (by simp) rfl) rfl; exact AnyOrder.sv rfl rfl (.bool true) (run_eql24b e0 e1) st.inv (Below.refl _ _) rfl)
  | 5, ho => (injection ho with ho; subst ho; have e0 : a1.eval (.tmp 9) = .bool true := st.done 4 9 (hdep ⟨4, .data⟩ (by simp) rfl) rfl; exact AnyOrder.sv rfl rfl (.bool true) (AnyOrder.run_move e0) st.inv (Below.refl _ _) rfl)
  | 6, ho => (injection ho with ho; subst ho; have ec := AnyOrder.evc a1; have ef := AnyOrder.evf a1; have e0 : a1.eval (.tmp 2) = ptr g 0 := st.old hl 2 (by kernel_rfl); have eg : a1.eval (.tmp 10) = .bool true := st.done 5 10 (hdep ⟨5, .guard⟩ (by simp) rfl) rfl; exact AnyOrder.step_value rfl ((AnyOrder.wanted_of rfl rfl eg).trans rfl) (ptr g 18) (by generalize a1.eval = ρ at ec ef e0 ⊢; simp [execOp, ec, ef, e0, IntWalk.i64_left, go_sem]) st.inv (Below.refl _ _) rfl)
  | 7, ho => (injection ho with ho; subst ho; have ec := AnyOrder.evc a1; have ef := AnyOrder.evf a1; have e0 : a1.eval (.tmp 11) = ptr g 18 := st.done 6 11 (hdep ⟨6, .data⟩ (by simp) rfl) rfl; have eg : a1.eval (.tmp 10) = .bool true := st.done 5 10 (hdep ⟨5, .guard⟩ (by simp) rfl) rfl; exact AnyOrder.step_value rfl ((AnyOrder.wanted_of rfl rfl eg).trans rfl) (.int .i64 a.ix) (by have hk := BkAt.k18 (At.step HT.out.bk st.inv); generalize a1.eval = ρ at ec ef e0 ⊢; simp [execOp, e0, go_sem, hk]) st.inv (Below.refl _ _) rfl)
  | 8, ho => (injection ho with ho; subst ho; have ec := AnyOrder.evc a1; have ef := AnyOrder.evf a1; have e0 : a1.eval (.tmp 3) = ptr s 0 := st.old hl 3 (by kernel_rfl); have eg : a1.eval (.tmp 10) = .bool true := st.done 5 10 (hdep ⟨5, .guard⟩ (by simp) rfl) rfl; exact AnyOrder.step_value rfl ((AnyOrder.wanted_of rfl rfl eg).trans rfl) (ptr s 18) (by generalize a1.eval = ρ at ec ef e0 ⊢; simp [execOp, ec, ef, e0, IntWalk.i64_left, go_sem]) st.inv (Below.refl _ _) rfl)
  | 9, ho => (injection ho with ho; subst ho; have ec := AnyOrder.evc a1; have ef := AnyOrder.evf a1; have e0 : a1.eval (.tmp 13) = ptr s 18 := st.done 8 13 (hdep ⟨8, .data⟩ (by simp) rfl) rfl; have eg : a1.eval (.tmp 10) = .bool true := st.done 5 10 (hdep ⟨5, .guard⟩ (by simp) rfl) rfl; exact AnyOrder.step_value rfl ((AnyOrder.wanted_of rfl rfl eg).trans rfl) (.int .i64 b.ix) (by have hk := BkAt.k18 (At.step HT.out.bk2 st.inv); generalize a1.eval = ρ at ec ef e0 ⊢; simp [execOp, e0, go_sem, hk]) st.inv (Below.refl _ _) rfl)
  | 10, ho => (injection ho with ho; subst ho; have ec := AnyOrder.evc a1; have ef := AnyOrder.evf a1; have e0 : a1.eval (.tmp 12) = .int .i64 a.ix := st.done 7 12 (hdep ⟨7, .data⟩ (by simp) rfl) rfl; have e1 : a1.eval (.tmp 14) = .int .i64 b.ix := st.done 9 14 (hdep ⟨9, .data⟩ (by simp) rfl) rfl; have eg : a1.eval (.tmp 10) = .bool true := st.done 5 10 (hdep ⟨5, .guard⟩ (by simp) rfl) rfl; exact AnyOrder.step_value rfl ((AnyOrder.wanted_of rfl rfl eg).trans rfl) (.bool false) (by generalize a1.eval = ρ at ec ef e0 e1 ⊢; simp [execOp, e0, e1, go_sem, hd]) st.inv (Below.refl _ _) rfl)
  | 11, ho => (injection ho with ho; subst ho; have ec := AnyOrder.evc a1; have ef := AnyOrder.evf a1; have e0 : a1.eval (.tmp 10) = .bool true := st.done 5 10 (hdep ⟨5, .data⟩ (by simp) rfl) rfl; have e1 : a1.eval (.tmp 15) = .bool false := st.done 10 15 (hdep ⟨10, .data⟩ (by simp) rfl) rfl; exact AnyOrder.sv rfl rfl (.bool false) (by generalize a1.eval = ρ at ec ef e0 e1 ⊢; simp [execOp, ec, ef, e0, e1, IntWalk.i64_left, go_sem]) st.inv (Below.refl _ _) rfl)
  | 12, ho => (injection ho with ho; subst ho; have e0 : a1.eval (.tmp 16) = .bool false := st.done 11 16 (hdep ⟨11, .data⟩ (by simp) rfl) rfl; exact AnyOrder.sv rfl rfl (.bool false) (AnyOrder.run_move e0) st.inv (Below.refl _ _) rfl)
  | 13, ho => (injection ho with ho; subst ho; have eg : a1.eval (.tmp 17) = .bool false := st.done 12 17 (hdep ⟨12, .guard⟩ (by simp) rfl) rfl; exact AnyOrder.step_skip rfl ((AnyOrder.wanted_of rfl rfl eg).trans rfl) st.inv rfl)
  | 14, ho => (injection ho with ho; subst ho; have eg : a1.eval (.tmp 17) = .bool false := st.done 12 17 (hdep ⟨12, .guard⟩ (by simp) rfl) rfl; exact AnyOrder.step_skip rfl ((AnyOrder.wanted_of rfl rfl eg).trans rfl) st.inv rfl)
  | 15, ho => (injection ho with ho; subst ho; have eg : a1.eval (.tmp 17) = .bool false := st.done 12 17 (hdep ⟨12, .guard⟩ (by simp) rfl) rfl; exact AnyOrder.step_skip rfl ((AnyOrder.wanted_of rfl rfl eg).trans rfl) st.inv rfl)
  | 16, ho => (injection ho with ho; subst ho; have eg : a1.eval (.tmp 17) = .bool false := st.done 12 17 (hdep ⟨12, .guard⟩ (by simp) rfl) rfl; exact AnyOrder.step_skip rfl ((AnyOrder.wanted_of rfl rfl eg).trans rfl) st.inv rfl)
  | 17, ho => (injection ho with ho; subst ho; have eg : a1.eval (.tmp 17) = .bool false := st.done 12 17 (hdep ⟨12, .guard⟩ (by simp) rfl) rfl; exact AnyOrder.step_skip rfl ((AnyOrder.wanted_of rfl rfl eg).trans rfl) st.inv rfl)
  | 18, ho => (injection ho with ho; subst ho; have ec := AnyOrder.evc a1; have ef := AnyOrder.evf a1; have e0 : a1.eval (.tmp 17) = .bool false := st.done 12 17 (hdep ⟨12, .data⟩ (by simp) rfl) rfl; have e1 : a1.eval (.tmp 22) = undef := st.done 17 22 (hdep ⟨17, .data⟩ (by simp) rfl) rfl; exact AnyOrder.sv rfl rfl (.bool false) (by generalize a1.eval = ρ at ec ef e0 e1 ⊢; simp [execOp, ec, ef, e0, e1, IntWalk.i64_left, go_sem]) st.inv (Below.refl _ _) rfl)
  | 19, ho => (injection ho with ho; subst ho; have e0 : a1.eval (.tmp 23) = .bool false := st.done 18 23 (hdep ⟨18, .data⟩ (by simp) rfl) rfl; exact AnyOrder.sv rfl rfl (.bool false) (AnyOrder.run_move e0) st.inv (Below.refl _ _) rfl)
  | 20, ho => (injection ho with ho; subst ho; have eg : a1.eval (.tmp 24) = .bool false := st.done 19 24 (hdep ⟨19, .guard⟩ (by simp) rfl) rfl; exact AnyOrder.step_skip rfl ((AnyOrder.wanted_of rfl rfl eg).trans rfl) st.inv rfl)
  | 21, ho => (injection ho with ho; subst ho; have eg : a1.eval (.tmp 24) = .bool false := st.done 19 24 (hdep ⟨19, .guard⟩ (by simp) rfl) rfl; exact AnyOrder.step_skip rfl ((AnyOrder.wanted_of rfl rfl eg).trans rfl) st.inv rfl)
  | 22, ho => (injection ho with ho; subst ho; have eg : a1.eval (.tmp 24) = .bool false := st.done 19 24 (hdep ⟨19, .guard⟩ (by simp) rfl) rfl; exact AnyOrder.step_skip rfl ((AnyOrder.wanted_of rfl rfl eg).trans rfl) st.inv rfl)
  | 23, ho => (injection ho with ho; subst ho; have eg : a1.eval (.tmp 24) = .bool false := st.done 19 24 (hdep ⟨19, .guard⟩ (by simp) rfl) rfl; exact AnyOrder.step_skip rfl ((AnyOrder.wanted_of rfl rfl eg).trans rfl) st.inv rfl)
  | 24, ho => (injection ho with ho; subst ho; have eg : a1.eval (.tmp 24) = .bool false := st.done 19 24 (hdep ⟨19, .chain⟩ (by simp) rfl) rfl; exact AnyOrder.step_skip rfl ((AnyOrder.wanted_of rfl rfl eg).trans rfl) st.inv rfl)
  | 25, ho => (injection ho with ho; subst ho; have ec := AnyOrder.evc a1; have ef := AnyOrder.evf a1; have e0 : a1.eval (.tmp 24) = .bool false := st.done 19 24 (hdep ⟨19, .data⟩ (by simp) rfl) rfl; have e1 : a1.eval (.tmp 29) = undef := st.done 24 29 (hdep ⟨24, .data⟩ (by simp) rfl) rfl; exact AnyOrder.sv rfl rfl (.bool false) (by generalize a1.eval = ρ at ec ef e0 e1 ⊢; simp [execOp, ec, ef, e0, e1, IntWalk.i64_left, go_sem]) st.inv (Below.refl _ _) rfl)
  | 26, ho => (injection ho with ho; subst ho; have e0 : a1.eval (.tmp 30) = .bool false := st.done 25 30 (hdep ⟨25, .data⟩ (by simp) rfl) rfl; exact AnyOrder.sv rfl rfl (.bool false) (AnyOrder.run_move e0) st.inv (Below.refl _ _) rfl)
  | 27, ho => (injection ho with ho; subst ho; have eg : a1.eval (.tmp 31) = .bool false := st.done 26 31 (hdep ⟨26, .guard⟩ (by simp) rfl) rfl; exact AnyOrder.step_skip rfl ((AnyOrder.wanted_of rfl rfl eg).trans rfl) st.inv rfl)
  | 28, ho => (injection ho with ho; subst ho; have eg : a1.eval (.tmp 31) = .bool false := st.done 26 31 (hdep ⟨26, .chain⟩ (by simp) rfl) rfl; exact AnyOrder.step_skip rfl ((AnyOrder.wanted_of rfl rfl eg).trans rfl) st.inv rfl)
  | 29, ho => (injection ho with ho; subst ho; have eg : a1.eval (.tmp 31) = .bool false := st.done 26 31 (hdep ⟨26, .guard⟩ (by simp) rfl) rfl; exact AnyOrder.step_skip rfl ((AnyOrder.wanted_of rfl rfl eg).trans rfl) st.inv rfl)
  | 30, ho => (injection ho with ho; subst ho; have eg : a1.eval (.tmp 31) = .bool false := st.done 26 31 (hdep ⟨26, .guard⟩ (by simp) rfl) rfl; exact AnyOrder.step_skip rfl ((AnyOrder.wanted_of rfl rfl eg).trans rfl) st.inv rfl)
  | 31, ho => (injection ho with ho; subst ho; have eg : a1.eval (.tmp 31) = .bool false := st.done 26 31 (hdep ⟨26, .guard⟩ (by simp) rfl) rfl; exact AnyOrder.step_skip rfl ((AnyOrder.wanted_of rfl rfl eg).trans rfl) st.inv rfl)
  | 32, ho => (injection ho with ho; subst ho; have ec := AnyOrder.evc a1; have ef := AnyOrder.evf a1; have e0 : a1.eval (.tmp 31) = .bool false := st.done 26 31 (hdep ⟨26, .data⟩ (by simp) rfl) rfl; have e1 : a1.eval (.tmp 36) = undef := st.done 31 36 (hdep ⟨31, .data⟩ (by simp) rfl) rfl; exact AnyOrder.sv rfl rfl (.bool false) (by generalize a1.eval = ρ at ec ef e0 e1 ⊢; simp [execOp, ec, ef, e0, e1, IntWalk.i64_left, go_sem]) st.inv (Below.refl _ _) rfl)
  | n + 33, ho => exact absurd hin (by omega)
 ·intro w2 hJ
  simp only [AnyOrder.finK, List.take_succ_cons, List.take_zero, List.drop_succ_cons, List.drop_zero, Act.put, List.setIfInBounds_toArray, List.set_cons_zero, List.set_cons_succ]
  go_wp2_with fail
  go_ret
  exact ⟨rfl, HT.out.bel.trans (hJ.mono HT.out.bel.size)⟩
structure LdS (w W : World) (g s q : Nat) (x : Vt) (ch : Cg) (b : Bk) (o p : Option Addr) : Prop where
 bel : Below w.heap.size w W
 vt : VtAt W g x
 cg : CgAt W s ch
 bk : BkAt W q b o p
theorem LdS.new {w : World} {g : Nat} {x : Vt} (h : VtAt w g x) (ch : Cg) (b : Bk) (o p : Option Addr) : LdS w ((w.alloc (.cells ch.cells 48)).alloc (.cells (b.cells o p) 37)) g w.heap.size (w.heap.size + 1) x ch b o p := by
 obtain ⟨h1, h2, h3⟩ := new2 w ch.cells (b.cells o p) 48 37
 exact ⟨h1, At.step h h1, h2, h3⟩
theorem LdS.step {w W W' : World} {g s q : Nat} {x : Vt} {ch : Cg} {b : Bk} {o p : Option Addr} (h : LdS w W g s q x ch b o p) (hb : Below W.heap.size W W') : LdS w W' g s q x ch b o p := ⟨h.bel.trans (hb.mono h.bel.size), h.vt.step hb, h.cg.step hb, h.bk.step hb⟩
set_option maxRecDepth 100000 in
set_option maxHeartbeats 1600000 in
theorem lead_ok {x : Vt} {ch : Cg} {b d : Bk} {o p : Option Addr} {e : Int} {g : Nat} {w : World} (hv : VtAt w g x) (ha : BAt w x.s.b x.s.o x.s.p) (hok : x.s.b.Ok) (hap : applyB x.s.b ch = (d, e)) (he : e = 0) (hd : d = b) (hb : BAt w b o p) : Calls Tryz.prog 28 #[ptr g 0, ch.V, b.V o p] w (Yes w true) := by
 have HT := Lib.hid (LdS.new hv ch b o p)
 have HA := Lib.hid (ha.step HT.out.bel); clear ha
 have CY := Lib.hid (fun (W : World) (hb : BAt W x.s.b x.s.o x.s.p) => applyBk_any (x := ch) hb hok)
 rw [hap] at CY
 subst hd; subst he
 have HB0 := Lib.hid (hb.step HT.out.bel); clear hb
 have CS := Lib.hid (fun (W : World) {o1 p1 o2 p2 : Option Addr} (h1 : BAt W d o1 p1) (h2 : BAt W d o2 p2) => same_book h1 h2)
 clear hv hok hap
 go_enter Tryz.func28, Tryz.ntmps28
 go_upto_region 1 with fail
 obtain ⟨W, hW⟩ : ∃ W, (w.alloc (.cells ch.cells 48)).alloc (.cells (d.cells o p) 37) = W := ⟨_, rfl⟩
 rw [hW] at HT HA HB0 ⊢; clear hW
 obtain ⟨q, hq⟩ : ∃ q, w.heap.size + 1 = q := ⟨_, rfl⟩
 obtain ⟨s, hs⟩ : ∃ s, w.heap.size = s := ⟨_, rfl⟩
 have HQS := Lib.hid hs
 rw [hq] at HT ⊢; clear hq
 rw [hs] at HT ⊢; clear hs
 refine wp_region_noPanic ?_
 refine AnyOrder.region_late 11 [.eq (ptr g 0), .eq (ptr g 0), .eq (ptr g 0), .eq (ptr g 0), .eq (x.s.b.V x.s.o x.s.p), .eq (ch.V), .of (DvAt d 0), .of (DvAt d 0), .of (BvAt d), .eq (.int .i64 0), .of (AnyOrder.Fresh W 37 (zb.cells none none))] [9] (fun wx => Below W.heap.size W wx) (by kernel_rfl) (by kernel_rfl) rfl (by kernel_rfl) (by kernel_rfl) (fun _ _ _ _ _ h => h) (below_drewN (Below.refl _ _) 1) (by intro p wa wb hp hj hb v hv; simp at hp; rcases hp with rfl | rfl | rfl | rfl <;> (first | exact DvAt.keep hv hb | exact DvAt.keep hv hb | exact BvAt.keep hv hb | exact AnyOrder.Fresh.keep hv hb | fail)) ?_ ?_ ?_
 ·intro f o hL ho
  have hL : f = 9 := by simpa using hL
  rcases hL with rfl
  ·injection ho with ho; subst ho; exact ⟨_, rfl, rfl, fun a w hd w9 => by obtain ⟨o4, p4, e18, h18⟩ := hd 7 9 (by decide) (by decide) rfl; generalize a.eval = ρ at e18 ⊢; simp [execOp, e18, go_sem]⟩
 ·intro i o listed a1 w2 hin ho st hl hdep
  match i, ho with
  | 0, ho => (injection ho with ho; subst ho; have e0 : a1.eval (.tmp 0) = ptr g 0 := st.old hl 0 (by kernel_rfl); exact AnyOrder.sv rfl rfl (ptr g 0) (AnyOrder.run_move e0) st.inv (Below.refl _ _) rfl)
  | 1, ho => (injection ho with ho; subst ho; have ec := AnyOrder.evc a1; have ef := AnyOrder.evf a1; have e0 : a1.eval (.tmp 10) = ptr g 0 := st.done 0 10 (hdep ⟨0, .data⟩ (by simp) rfl) rfl; exact AnyOrder.sv rfl rfl (ptr g 0) (by generalize a1.eval = ρ at ec ef e0 ⊢; simp [execOp, ec, ef, e0, IntWalk.i64_left, go_sem]) st.inv (Below.refl _ _) rfl)
  | 2, ho => (injection ho with ho; subst ho; have ec := AnyOrder.evc a1; have ef := AnyOrder.evf a1; have e0 : a1.eval (.tmp 11) = ptr g 0 := st.done 1 11 (hdep ⟨1, .data⟩ (by simp) rfl) rfl; exact AnyOrder.sv rfl rfl (ptr g 0) (by generalize a1.eval = ρ at ec ef e0 ⊢; simp [execOp, ec, ef, e0, IntWalk.i64_left, go_sem]) st.inv (Below.refl _ _) rfl)
  | 3, ho => (injection ho with ho; subst ho; have ec := AnyOrder.evc a1; have ef := AnyOrder.evf a1; have e0 : a1.eval (.tmp 12) = ptr g 0 := st.done 2 12 (hdep ⟨2, .data⟩ (by simp) rfl) rfl; exact AnyOrder.sv rfl rfl (ptr g 0) (by generalize a1.eval = ρ at ec ef e0 ⊢; simp [execOp, ec, ef, e0, IntWalk.i64_left, go_sem]) st.inv (Below.refl _ _) rfl)
  | 4, ho => (injection ho with ho; subst ho; have e0 : a1.eval (.tmp 13) = ptr g 0 := st.done 3 13 (hdep ⟨3, .data⟩ (by simp) rfl) rfl; exact AnyOrder.sv rfl rfl (x.s.b.V x.s.o x.s.p) (run_load_bkm e0 (Sp.bk (VtAt.rng (At.step HT.out.vt st.inv)))) st.inv (Below.refl _ _) rfl)
  | 5, ho => (injection ho with ho; subst ho; have e0 : a1.eval (.tmp 4) = ptr s 0 := st.old hl 4 (by kernel_rfl); exact AnyOrder.sv rfl rfl (ch.V) (run_load_cg e0 (At.step HT.out.cg st.inv)) st.inv (Below.refl _ _) rfl)
  | 6, ho => (injection ho with ho; subst ho; have ec := AnyOrder.evc a1; have ef := AnyOrder.evf a1; have e0 : a1.eval (.tmp 14) = x.s.b.V x.s.o x.s.p := st.done 4 14 (hdep ⟨4, .data⟩ (by simp) rfl) rfl; have e1 : a1.eval (.tmp 15) = ch.V := st.done 5 15 (hdep ⟨5, .data⟩ (by simp) rfl) rfl; exact AnyOrder.step_call rfl (AnyOrder.wanted_none rfl) 44 #[x.s.b.V x.s.o x.s.p, ch.V] (by generalize a1.eval = ρ at ec ef e0 e1 ⊢; simp [execOp, ec, ef, e0, e1, go_sem]) ((CY.out _ (HA.out.step st.inv)).mono (fun e w4 h => by obtain ⟨o4, p4, rfl, ha, hb⟩ := h; exact ⟨_, rfl, st.inv.trans (hb.mono st.inv.size), hb, o4, p4, rfl, ha⟩)))
  | 7, ho => (injection ho with ho; subst ho; have e0 := st.done 6 16 (hdep ⟨6, .data⟩ (by simp) rfl) rfl; obtain ⟨v18, e18⟩ : ∃ v, a1.eval (.tmp 16) = v := ⟨_, rfl⟩; rw [e18] at e0; exact AnyOrder.sv rfl rfl v18 (AnyOrder.run_move e18) st.inv (Below.refl _ _) e0)
  | 8, ho => (injection ho with ho; subst ho; have ec := AnyOrder.evc a1; have ef := AnyOrder.evf a1; have e0 := st.done 7 9 (hdep ⟨7, .data⟩ (by simp) rfl) rfl; obtain ⟨o4, p4, e18, h18⟩ := e0; exact AnyOrder.sv rfl rfl (d.V o4 p4) (by generalize a1.eval = ρ at ec ef e18 ⊢; simp [execOp, e18, go_sem]) st.inv (Below.refl _ _) ⟨o4, p4, rfl, h18⟩)
  | 9, ho => (injection ho with ho; subst ho; have ec := AnyOrder.evc a1; have ef := AnyOrder.evf a1; have e0 := st.done 7 9 (hdep ⟨7, .data⟩ (by simp) rfl) rfl; obtain ⟨o4, p4, e18, h18⟩ := e0; exact AnyOrder.sv rfl rfl _ (by generalize a1.eval = ρ at ec ef e18 ⊢; simp [execOp, e18, go_sem]) st.inv (Below.refl _ _) rfl)
  | 10, ho => (injection ho with ho; subst ho; exact AnyOrder.sv rfl rfl (ptr w2.heap.size 0) run_alloc32 (st.inv.alloc st.inv.size _) (below_new _ _) ⟨_, rfl, st.inv.size, by simp, heap_alloc_new _ _⟩)
  | n + 11, ho => exact absurd hin (by omega)
 ·intro wy hJ
  simp only [AnyOrder.finK, List.take_succ_cons, List.take_zero, List.drop_succ_cons, List.drop_zero, Act.put, List.setIfInBounds_toArray, List.set_cons_zero, List.set_cons_succ]
  intro v5 h5 v6 h6 v7 h7 v9 h9
  clear h5 h6
  obtain ⟨o4, p4, rfl, h4⟩ := h7
  obtain ⟨q17, rfl, l21, l22, l23⟩ := h9
  have HQ1 : Hid (BkAt wy q17 zb none none) := Lib.hid l23
  have H1 := Lib.hid (HT.out.step hJ)
  have HS0 : Hid (BkAt (wy.setRow q17 (d.cells o4 p4)) q17 d o4 p4) := Lib.hid (At.setRow HQ1.out _)
  have HS1 : Hid (BAt (wy.setRow q17 (d.cells o4 p4)) d o4 p4) := Lib.hid (h4.farRow HQ1.out (by decide) (by decide))
  have HS2 : Hid (Below w.heap.size w (wy.setRow q17 (d.cells o4 p4))) := Lib.hid (setRow_below H1.out.bel (Nat.le_trans HT.out.bel.size l21) _)
  have HS3 : Hid (BkAt (wy.setRow q17 (d.cells o4 p4)) q d o p) := Lib.hid (At.farRow H1.out.bk (by have := At.lt HT.out.bk; omega))
  have HS4 : Hid (BAt (wy.setRow q17 (d.cells o4 p4)) d o p) := Lib.hid ((HB0.out.step hJ).farRow HQ1.out (by decide) (by decide))
  clear h4 l21 l22 l23 hJ HT HA CY H1
  go_wp2_with ((with_reducible apply wpList_store_bk (b := d) (s := o4) (t := p4) (hq := HQ1.out)); exact rfl; exact rfl; exact rfl; exact rfl)
  refine NoPanic.normal ?_
  obtain ⟨w3, hw3⟩ : ∃ w3, (wy.setRow q17 (d.cells o4 p4)) = w3 := ⟨_, rfl⟩
  rw [hw3] at HS0 HS1 HS2 HS3 HS4 ⊢; clear hw3 HQ1
  go_wp2_with (first | ((with_reducible apply wpList_load_bk (h := HS0.out)); exact rfl; exact rfl; exact rfl) | ((with_reducible apply wpList_load_bk (h := HS3.out)); exact rfl; exact rfl; exact rfl) | (go_at_call 45; (with_reducible refine (CS.out _ HS1.out HS4.out).mono ?_)))
  rintro e1 w5 ⟨rfl, hb5⟩
  go_wp2_with fail
  go_ret
  exact ⟨rfl, HS2.out.trans (hb5.mono HS2.out.size)⟩
set_option maxRecDepth 100000 in
set_option maxHeartbeats 1600000 in
theorem lead_ix {x : Vt} {ch : Cg} {b d : Bk} {o p : Option Addr} {e : Int} {g : Nat} {w : World} (hv : VtAt w g x) (ha : BAt w x.s.b x.s.o x.s.p) (hok : x.s.b.Ok) (hap : applyB x.s.b ch = (d, e)) (he : e = 0) (hc : d.c = b.c) (hi : d.ix ≠ b.ix) : Calls Tryz.prog 28 #[ptr g 0, ch.V, b.V o p] w (Yes w false) := by
 have HT := Lib.hid (LdS.new hv ch b o p)
 have HA := Lib.hid (ha.step HT.out.bel); clear ha
 have CY := Lib.hid (fun (W : World) (hb : BAt W x.s.b x.s.o x.s.p) => applyBk_any (x := ch) hb hok)
 rw [hap] at CY
 subst he
 have CS := Lib.hid (fun (W : World) {o1 p1 o2 p2 : Option Addr} => same_ix (o := o1) (p := p1) (o' := o2) (p' := p2) (w := W) hc hi)
 clear hc hi
 clear hv hok hap
 go_enter Tryz.func28, Tryz.ntmps28
 go_upto_region 1 with fail
 obtain ⟨W, hW⟩ : ∃ W, (w.alloc (.cells ch.cells 48)).alloc (.cells (b.cells o p) 37) = W := ⟨_, rfl⟩
 rw [hW] at HT HA ⊢; clear hW
 obtain ⟨q, hq⟩ : ∃ q, w.heap.size + 1 = q := ⟨_, rfl⟩
 obtain ⟨s, hs⟩ : ∃ s, w.heap.size = s := ⟨_, rfl⟩
 have HQS := Lib.hid hs
 rw [hq] at HT ⊢; clear hq
 rw [hs] at HT ⊢; clear hs
 refine wp_region_noPanic ?_
 refine AnyOrder.region_late 11 [.eq (ptr g 0), .eq (ptr g 0), .eq (ptr g 0), .eq (ptr g 0), .eq (x.s.b.V x.s.o x.s.p), .eq (ch.V), .of (DvAt d 0), .of (DvAt d 0), .of (BvAt d), .eq (.int .i64 0), .of (AnyOrder.Fresh W 37 (zb.cells none none))] [9] (fun wx => Below W.heap.size W wx) (by kernel_rfl) (by kernel_rfl) rfl (by kernel_rfl) (by kernel_rfl) (fun _ _ _ _ _ h => h) (below_drewN (Below.refl _ _) 1) (by intro p wa wb hp hj hb v hv; simp at hp; rcases hp with rfl | rfl | rfl | rfl <;> (first | exact DvAt.keep hv hb | exact DvAt.keep hv hb | exact BvAt.keep hv hb | exact AnyOrder.Fresh.keep hv hb | fail)) ?_ ?_ ?_
 ·intro f o hL ho
  have hL : f = 9 := by simpa using hL
  rcases hL with rfl
  ·injection ho with ho; subst ho; exact ⟨_, rfl, rfl, fun a w hd w9 => by obtain ⟨o4, p4, e18, h18⟩ := hd 7 9 (by decide) (by decide) rfl; generalize a.eval = ρ at e18 ⊢; simp [execOp, e18, go_sem]⟩
 ·intro i o listed a1 w2 hin ho st hl hdep
  match i, ho with
  | 0, ho => (injection ho with ho; subst ho; have e0 : a1.eval (.tmp 0) = ptr g 0 := st.old hl 0 (by kernel_rfl); exact AnyOrder.sv rfl rfl (ptr g 0) (AnyOrder.run_move e0) st.inv (Below.refl _ _) rfl)
  | 1, ho => (injection ho with ho; subst ho; have ec := AnyOrder.evc a1; have ef := AnyOrder.evf a1; have e0 : a1.eval (.tmp 10) = ptr g 0 := st.done 0 10 (hdep ⟨0, .data⟩ (by simp) rfl) rfl; exact AnyOrder.sv rfl rfl (ptr g 0) (by generalize a1.eval = ρ at ec ef e0 ⊢; simp [execOp, ec, ef, e0, IntWalk.i64_left, go_sem]) st.inv (Below.refl _ _) rfl)
  | 2, ho => (injection ho with ho; subst ho; have ec := AnyOrder.evc a1; have ef := AnyOrder.evf a1; have e0 : a1.eval (.tmp 11) = ptr g 0 := st.done 1 11 (hdep ⟨1, .data⟩ (by simp) rfl) rfl; exact AnyOrder.sv rfl rfl (ptr g 0) (by generalize a1.eval = ρ at ec ef e0 ⊢; simp [execOp, ec, ef, e0, IntWalk.i64_left, go_sem]) st.inv (Below.refl _ _) rfl)
  | 3, ho => (injection ho with ho; subst ho; have ec := AnyOrder.evc a1; have ef := AnyOrder.evf a1; have e0 : a1.eval (.tmp 12) = ptr g 0 := st.done 2 12 (hdep ⟨2, .data⟩ (by simp) rfl) rfl; exact AnyOrder.sv rfl rfl (ptr g 0) (by generalize a1.eval = ρ at ec ef e0 ⊢; simp [execOp, ec, ef, e0, IntWalk.i64_left, go_sem]) st.inv (Below.refl _ _) rfl)
  | 4, ho => (injection ho with ho; subst ho; have e0 : a1.eval (.tmp 13) = ptr g 0 := st.done 3 13 (hdep ⟨3, .data⟩ (by simp) rfl) rfl; exact AnyOrder.sv rfl rfl (x.s.b.V x.s.o x.s.p) (run_load_bkm e0 (Sp.bk (VtAt.rng (At.step HT.out.vt st.inv)))) st.inv (Below.refl _ _) rfl)
  | 5, ho => (injection ho with ho; subst ho; have e0 : a1.eval (.tmp 4) = ptr s 0 := st.old hl 4 (by kernel_rfl); exact AnyOrder.sv rfl rfl (ch.V) (run_load_cg e0 (At.step HT.out.cg st.inv)) st.inv (Below.refl _ _) rfl)
  | 6, ho => (injection ho with ho; subst ho; have ec := AnyOrder.evc a1; have ef := AnyOrder.evf a1; have e0 : a1.eval (.tmp 14) = x.s.b.V x.s.o x.s.p := st.done 4 14 (hdep ⟨4, .data⟩ (by simp) rfl) rfl; have e1 : a1.eval (.tmp 15) = ch.V := st.done 5 15 (hdep ⟨5, .data⟩ (by simp) rfl) rfl; exact AnyOrder.step_call rfl (AnyOrder.wanted_none rfl) 44 #[x.s.b.V x.s.o x.s.p, ch.V] (by generalize a1.eval = ρ at ec ef e0 e1 ⊢; simp [execOp, ec, ef, e0, e1, go_sem]) ((CY.out _ (HA.out.step st.inv)).mono (fun e w4 h => by obtain ⟨o4, p4, rfl, ha, hb⟩ := h; exact ⟨_, rfl, st.inv.trans (hb.mono st.inv.size), hb, o4, p4, rfl, ha⟩)))
  | 7, ho => (injection ho with ho; subst ho; have e0 := st.done 6 16 (hdep ⟨6, .data⟩ (by simp) rfl) rfl; obtain ⟨v18, e18⟩ : ∃ v, a1.eval (.tmp 16) = v := ⟨_, rfl⟩; rw [e18] at e0; exact AnyOrder.sv rfl rfl v18 (AnyOrder.run_move e18) st.inv (Below.refl _ _) e0)
  | 8, ho => (injection ho with ho; subst ho; have ec := AnyOrder.evc a1; have ef := AnyOrder.evf a1; have e0 := st.done 7 9 (hdep ⟨7, .data⟩ (by simp) rfl) rfl; obtain ⟨o4, p4, e18, h18⟩ := e0; exact AnyOrder.sv rfl rfl (d.V o4 p4) (by generalize a1.eval = ρ at ec ef e18 ⊢; simp [execOp, e18, go_sem]) st.inv (Below.refl _ _) ⟨o4, p4, rfl, h18⟩)
  | 9, ho => (injection ho with ho; subst ho; have ec := AnyOrder.evc a1; have ef := AnyOrder.evf a1; have e0 := st.done 7 9 (hdep ⟨7, .data⟩ (by simp) rfl) rfl; obtain ⟨o4, p4, e18, h18⟩ := e0; exact AnyOrder.sv rfl rfl _ (by generalize a1.eval = ρ at ec ef e18 ⊢; simp [execOp, e18, go_sem]) st.inv (Below.refl _ _) rfl)
  | 10, ho => (injection ho with ho; subst ho; exact AnyOrder.sv rfl rfl (ptr w2.heap.size 0) run_alloc32 (st.inv.alloc st.inv.size _) (below_new _ _) ⟨_, rfl, st.inv.size, by simp, heap_alloc_new _ _⟩)
  | n + 11, ho => exact absurd hin (by omega)
 ·intro wy hJ
  simp only [AnyOrder.finK, List.take_succ_cons, List.take_zero, List.drop_succ_cons, List.drop_zero, Act.put, List.setIfInBounds_toArray, List.set_cons_zero, List.set_cons_succ]
  intro v5 h5 v6 h6 v7 h7 v9 h9
  clear h5 h6
  obtain ⟨o4, p4, rfl, h4⟩ := h7
  obtain ⟨q17, rfl, l21, l22, l23⟩ := h9
  have HQ1 : Hid (BkAt wy q17 zb none none) := Lib.hid l23
  have H1 := Lib.hid (HT.out.step hJ)
  have HS0 : Hid (BkAt (wy.setRow q17 (d.cells o4 p4)) q17 d o4 p4) := Lib.hid (At.setRow HQ1.out _)
  have HS1 : Hid (BAt (wy.setRow q17 (d.cells o4 p4)) d o4 p4) := Lib.hid (h4.farRow HQ1.out (by decide) (by decide))
  have HS2 : Hid (Below w.heap.size w (wy.setRow q17 (d.cells o4 p4))) := Lib.hid (setRow_below H1.out.bel (Nat.le_trans HT.out.bel.size l21) _)
  have HS3 : Hid (BkAt (wy.setRow q17 (d.cells o4 p4)) q b o p) := Lib.hid (At.farRow H1.out.bk (by have := At.lt HT.out.bk; omega))
  clear h4 l21 l22 l23 hJ HT HA CY H1
  go_wp2_with ((with_reducible apply wpList_store_bk (b := d) (s := o4) (t := p4) (hq := HQ1.out)); exact rfl; exact rfl; exact rfl; exact rfl)
  refine NoPanic.normal ?_
  obtain ⟨w3, hw3⟩ : ∃ w3, (wy.setRow q17 (d.cells o4 p4)) = w3 := ⟨_, rfl⟩
  rw [hw3] at HS0 HS1 HS2 HS3 ⊢; clear hw3 HQ1
  go_wp2_with (first | ((with_reducible apply wpList_load_bk (h := HS0.out)); exact rfl; exact rfl; exact rfl) | ((with_reducible apply wpList_load_bk (h := HS3.out)); exact rfl; exact rfl; exact rfl) | (go_at_call 45; (with_reducible refine (CS.out _).mono ?_)))
  rintro e1 w5 ⟨rfl, hb5⟩
  go_wp2_with fail
  go_ret
  exact ⟨rfl, HS2.out.trans (hb5.mono HS2.out.size)⟩
set_option maxRecDepth 100000 in
set_option maxHeartbeats 1600000 in
theorem lead_no {x : Vt} {ch : Cg} {b d : Bk} {o p : Option Addr} {e : Int} {g : Nat} {w : World} (hv : VtAt w g x) (ha : BAt w x.s.b x.s.o x.s.p) (hok : x.s.b.Ok) (hap : applyB x.s.b ch = (d, e)) (he : e ≠ 0) : Calls Tryz.prog 28 #[ptr g 0, ch.V, b.V o p] w (Yes w false) := by
 have HT := Lib.hid (LdS.new hv ch b o p)
 have HA := Lib.hid (ha.step HT.out.bel); clear ha
 have CY := Lib.hid (fun (W : World) (hb : BAt W x.s.b x.s.o x.s.p) => applyBk_any (x := ch) hb hok)
 rw [hap] at CY
 have hd : (e == 0) = false := by simpa using he
 clear he
 clear hv hok hap
 go_enter Tryz.func28, Tryz.ntmps28
 go_upto_region 1 with fail
 obtain ⟨W, hW⟩ : ∃ W, (w.alloc (.cells ch.cells 48)).alloc (.cells (b.cells o p) 37) = W := ⟨_, rfl⟩
 rw [hW] at HT HA ⊢; clear hW
 obtain ⟨q, hq⟩ : ∃ q, w.heap.size + 1 = q := ⟨_, rfl⟩
 obtain ⟨s, hs⟩ : ∃ s, w.heap.size = s := ⟨_, rfl⟩
 have HQS := Lib.hid hs
 rw [hq] at HT ⊢; clear hq
 rw [hs] at HT ⊢; clear hs
 refine wp_region_noPanic ?_
 refine AnyOrder.region_late 11 [.eq (ptr g 0), .eq (ptr g 0), .eq (ptr g 0), .eq (ptr g 0), .eq (x.s.b.V x.s.o x.s.p), .eq (ch.V), .of (DvAt d e), .of (DvAt d e), .of (BvAt d), .eq (.int .i64 e), .of (AnyOrder.Fresh W 37 (zb.cells none none))] [9] (fun wx => Below W.heap.size W wx) (by kernel_rfl) (by kernel_rfl) rfl (by kernel_rfl) (by kernel_rfl) (fun _ _ _ _ _ h => h) (below_drewN (Below.refl _ _) 1) (by intro p wa wb hp hj hb v hv; simp at hp; rcases hp with rfl | rfl | rfl | rfl <;> (first | exact DvAt.keep hv hb | exact DvAt.keep hv hb | exact BvAt.keep hv hb | exact AnyOrder.Fresh.keep hv hb | fail)) ?_ ?_ ?_
 ·intro f o hL ho
  have hL : f = 9 := by simpa using hL
  rcases hL with rfl
  ·injection ho with ho; subst ho; exact ⟨_, rfl, rfl, fun a w hd w9 => by obtain ⟨o4, p4, e18, h18⟩ := hd 7 9 (by decide) (by decide) rfl; generalize a.eval = ρ at e18 ⊢; simp [execOp, e18, go_sem]⟩
 ·intro i o listed a1 w2 hin ho st hl hdep
  match i, ho with
  | 0, ho => (injection ho with ho; subst ho; have e0 : a1.eval (.tmp 0) = ptr g 0 := st.old hl 0 (by kernel_rfl); exact AnyOrder.sv rfl rfl (ptr g 0) (AnyOrder.run_move e0) st.inv (Below.refl _ _) rfl)
  | 1, ho => (injection ho with ho; subst ho; have ec := AnyOrder.evc a1; have ef := AnyOrder.evf a1; have e0 : a1.eval (.tmp 10) = ptr g 0 := st.done 0 10 (hdep ⟨0, .data⟩ (by simp) rfl) rfl; exact AnyOrder.sv rfl rfl (ptr g 0) (by generalize a1.eval = ρ at ec ef e0 ⊢; simp [execOp, ec, ef, e0, IntWalk.i64_left, go_sem]) st.inv (Below.refl _ _) rfl)
  | 2, ho => (injection ho with ho; subst ho; have ec := AnyOrder.evc a1; have ef := AnyOrder.evf a1; have e0 : a1.eval (.tmp 11) = ptr g 0 := st.done 1 11 (hdep ⟨1, .data⟩ (by simp) rfl) rfl; exact AnyOrder.sv rfl rfl (ptr g 0) (by generalize a1.eval = ρ at ec ef e0 ⊢; simp [execOp, ec, ef, e0, IntWalk.i64_left, go_sem]) st.inv (Below.refl _ _) rfl)
  | 3, ho => (injection ho with ho; subst ho; have ec := AnyOrder.evc a1; have ef := AnyOrder.evf a1; have e0 : a1.eval (.tmp 12) = ptr g 0 := st.done 2 12 (hdep ⟨2, .data⟩ (by simp) rfl) rfl; exact AnyOrder.sv rfl rfl (ptr g 0) (by generalize a1.eval = ρ at ec ef e0 ⊢; simp [execOp, ec, ef, e0, IntWalk.i64_left, go_sem]) st.inv (Below.refl _ _) rfl)
  | 4, ho => (injection ho with ho; subst ho; have e0 : a1.eval (.tmp 13) = ptr g 0 := st.done 3 13 (hdep ⟨3, .data⟩ (by simp) rfl) rfl; exact AnyOrder.sv rfl rfl (x.s.b.V x.s.o x.s.p) (run_load_bkm e0 (Sp.bk (VtAt.rng (At.step HT.out.vt st.inv)))) st.inv (Below.refl _ _) rfl)
  | 5, ho => (injection ho with ho; subst ho; have e0 : a1.eval (.tmp 4) = ptr s 0 := st.old hl 4 (by kernel_rfl); exact AnyOrder.sv rfl rfl (ch.V) (run_load_cg e0 (At.step HT.out.cg st.inv)) st.inv (Below.refl _ _) rfl)
  | 6, ho => (injection ho with ho; subst ho; have ec := AnyOrder.evc a1; have ef := AnyOrder.evf a1; have e0 : a1.eval (.tmp 14) = x.s.b.V x.s.o x.s.p := st.done 4 14 (hdep ⟨4, .data⟩ (by simp) rfl) rfl; have e1 : a1.eval (.tmp 15) = ch.V := st.done 5 15 (hdep ⟨5, .data⟩ (by simp) rfl) rfl; exact AnyOrder.step_call rfl (AnyOrder.wanted_none rfl) 44 #[x.s.b.V x.s.o x.s.p, ch.V] (by generalize a1.eval = ρ at ec ef e0 e1 ⊢; simp [execOp, ec, ef, e0, e1, go_sem]) ((CY.out _ (HA.out.step st.inv)).mono (fun e w4 h => by obtain ⟨o4, p4, rfl, ha, hb⟩ := h; exact ⟨_, rfl, st.inv.trans (hb.mono st.inv.size), hb, o4, p4, rfl, ha⟩)))
  | 7, ho => (injection ho with ho; subst ho; have e0 := st.done 6 16 (hdep ⟨6, .data⟩ (by simp) rfl) rfl; obtain ⟨v18, e18⟩ : ∃ v, a1.eval (.tmp 16) = v := ⟨_, rfl⟩; rw [e18] at e0; exact AnyOrder.sv rfl rfl v18 (AnyOrder.run_move e18) st.inv (Below.refl _ _) e0)
  | 8, ho => (injection ho with ho; subst ho; have ec := AnyOrder.evc a1; have ef := AnyOrder.evf a1; have e0 := st.done 7 9 (hdep ⟨7, .data⟩ (by simp) rfl) rfl; obtain ⟨o4, p4, e18, h18⟩ := e0; exact AnyOrder.sv rfl rfl (d.V o4 p4) (by generalize a1.eval = ρ at ec ef e18 ⊢; simp [execOp, e18, go_sem]) st.inv (Below.refl _ _) ⟨o4, p4, rfl, h18⟩)
  | 9, ho => (injection ho with ho; subst ho; have ec := AnyOrder.evc a1; have ef := AnyOrder.evf a1; have e0 := st.done 7 9 (hdep ⟨7, .data⟩ (by simp) rfl) rfl; obtain ⟨o4, p4, e18, h18⟩ := e0; exact AnyOrder.sv rfl rfl _ (by generalize a1.eval = ρ at ec ef e18 ⊢; simp [execOp, e18, go_sem]) st.inv (Below.refl _ _) rfl)
  | 10, ho => (injection ho with ho; subst ho; exact AnyOrder.sv rfl rfl (ptr w2.heap.size 0) run_alloc32 (st.inv.alloc st.inv.size _) (below_new _ _) ⟨_, rfl, st.inv.size, by simp, heap_alloc_new _ _⟩)
  | n + 11, ho => exact absurd hin (by omega)
 ·intro wy hJ
  simp only [AnyOrder.finK, List.take_succ_cons, List.take_zero, List.drop_succ_cons, List.drop_zero, Act.put, List.setIfInBounds_toArray, List.set_cons_zero, List.set_cons_succ]
  intro v5 h5 v6 h6 v7 h7 v9 h9
  clear h5 h6
  obtain ⟨o4, p4, rfl, h4⟩ := h7
  obtain ⟨q17, rfl, l21, l22, l23⟩ := h9
  have HQ1 : Hid (BkAt wy q17 zb none none) := Lib.hid l23
  have H1 := Lib.hid (HT.out.step hJ)
  have HS0 : Hid (BkAt (wy.setRow q17 (d.cells o4 p4)) q17 d o4 p4) := Lib.hid (At.setRow HQ1.out _)
  have HS1 : Hid (BAt (wy.setRow q17 (d.cells o4 p4)) d o4 p4) := Lib.hid (h4.farRow HQ1.out (by decide) (by decide))
  have HS2 : Hid (Below w.heap.size w (wy.setRow q17 (d.cells o4 p4))) := Lib.hid (setRow_below H1.out.bel (Nat.le_trans HT.out.bel.size l21) _)
  have HS3 : Hid (BkAt (wy.setRow q17 (d.cells o4 p4)) q b o p) := Lib.hid (At.farRow H1.out.bk (by have := At.lt HT.out.bk; omega))
  clear h4 l21 l22 l23 hJ HT HA CY H1
  go_wp2_with ((with_reducible apply wpList_store_bk (b := d) (s := o4) (t := p4) (hq := HQ1.out)); exact rfl; exact rfl; exact rfl; exact rfl)
  refine NoPanic.normal ?_
  obtain ⟨w3, hw3⟩ : ∃ w3, (wy.setRow q17 (d.cells o4 p4)) = w3 := ⟨_, rfl⟩
  rw [hw3] at HS0 HS1 HS2 HS3 ⊢; clear hw3 HQ1
  go_wp2_with fail
  go_ret
  exact ⟨rfl, HS2.out⟩
end Go.Proofs.YtplapoenhohliaaGreat
