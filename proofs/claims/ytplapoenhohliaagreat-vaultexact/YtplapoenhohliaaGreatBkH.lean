import Derived.Test.YtplapoenhohliaaGreatBkG
namespace Go.Proofs.YtplapoenhohliaaGreat
open Go.RowKit Go.Lib
open Sh.Plain (KV get put del Rise)
set_option linter.unusedVariables false
set_option linter.unusedSimpArgs false
section
variable {ρ : Operand → Value} {w : World} {x y : Tmp} {d : Option Tmp} {t : TypeId} {pos : String} {af : Array Edge} {gd : Option (Nat × Bool)}
theorem run_load_bk {g : Nat} {b : Bk} {o p : Option Addr} (e : ρ (.tmp x) = ptr g 0) (h : BkAt w g b o p) : (execOp ρ { dst := d, op := Op.load 37 (.tmp x), type := t, pos := pos, after := af, guard := gd }).run Tryz.prog w = .ok (.value (b.V o p)) w := by
 unfold execOp
 simp only [e, Instr.loadAt, Instr.sureAddr, Sem.run_bind, Sem.run_pure, Result.andThen_ok, run_loadVar_row w g 37 37 (b.cells o p) (0, 0) _ h Tryz.underlying37 rfl (size32 b o p)]
theorem run_load_cg {g : Nat} {c : Cg} (e : ρ (.tmp x) = ptr g 0) (h : CgAt w g c) : (execOp ρ { dst := d, op := Op.load 48 (.tmp x), type := t, pos := pos, after := af, guard := gd }).run Tryz.prog w = .ok (.value c.V) w := by
 unfold execOp
 simp only [e, Instr.loadAt, Instr.sureAddr, Sem.run_bind, Sem.run_pure, Result.andThen_ok, run_loadVar_row w g 48 48 c.cells (0, 0) _ h Tryz.underlying48 rfl (size39 c)]
theorem run_store_bkr {q : Nat} {b z : Bk} {o p o' p' : Option Addr} (e1 : ρ (.tmp x) = ptr q 0) (e2 : ρ (.tmp y) = b.V o p) (hq : BkAt w q z o' p') : (execOp ρ { dst := d, op := Op.store 37 (.tmp x) (.tmp y), type := t, pos := pos, after := af, guard := gd }).run Tryz.prog w = .ok .skip (w.setRow q (b.cells o p)) := by
 unfold execOp
 simp only [e1, e2, Instr.storeAt, Instr.sureAddr, Sem.run_bind, Sem.run_pure, Result.andThen_ok, run_storeVar_row w q 37 37 (z.cells o' p') (b.cells o p) hq (size32 b o p) (by rw [z.size, b.size]) (b.one o p)]
end
def changedB (b : Bk) (x : Cg) : Bk × Cg × Int := if b.ix = top then (zb, zg, 5) else (withB b { x with ix := b.ix + 1 }, { x with ix := b.ix + 1 }, 0)
structure XSt (w W : World) (g s q r : Nat) (b : Bk) (o p : Option Addr) (x : Cg) : Prop where
 bel : Below w.heap.size w W
 bk : BkAt W g b o p
 cg : CgAt W s x
 ans : BkAt W q zb none none
 an2 : CgAt W r zg
 lo : w.heap.size ≤ g ∧ w.heap.size ≤ s ∧ w.heap.size ≤ q ∧ w.heap.size ≤ r
 ne : g ≠ q ∧ s ≠ r
theorem XSt.new (w : World) (b : Bk) (o p : Option Addr) (x : Cg) : XSt w ((((w.alloc (.cells (b.cells o p) 37)).alloc (.cells x.cells 48)).alloc (.cells Z29 37)).alloc (.cells Z11 48)) w.heap.size (w.heap.size + 1) (w.heap.size + 1 + 1) (w.heap.size + 1 + 1 + 1) b o p x := by
 obtain ⟨h1, h2, h3, h4, h5⟩ := new4 w (b.cells o p) x.cells Z29 Z11 37 48 37 48
 exact ⟨h1, h2, h3, h4, h5, ⟨by omega, by omega, by omega, by omega⟩, by omega, by omega⟩
theorem XSt.step {w W W' : World} {g s q r : Nat} {b : Bk} {o p : Option Addr} {x : Cg} (h : XSt w W g s q r b o p x) (hb : Below W.heap.size W W') : XSt w W' g s q r b o p x := ⟨h.bel.trans (hb.mono h.bel.size), h.bk.step hb, h.cg.step hb, h.ans.step hb, h.an2.step hb, h.lo, h.ne⟩
theorem XSt.setI {w W : World} {g s q r : Nat} {b : Bk} {o p : Option Addr} {x : Cg} (h : XSt w W g s q r b o p x) (n : Int) : XSt w (W.setCell ⟨s, 0, none⟩ (.int .i64 n)) g s q r b o p { x with ix := n } :=
 ⟨h.bel.setCell h.lo.2.1 _, At.far h.bk (At.ne h.bk h.cg (by decide)) _, h.cg.setI n, At.far h.ans (At.ne h.ans h.cg (by decide)) _, At.far h.an2 (Ne.symm h.ne.2) _, h.lo, h.ne⟩
theorem fin3 {w W : World} {q r : Nat} {b z : Bk} {o p o' p' : Option Addr} {x z' : Cg} (hq : BkAt W q z o' p') (hr : CgAt W r z') (hb : Below w.heap.size w W) (l1 : w.heap.size ≤ q) (l2 : w.heap.size ≤ r) (ha : BAt W b o p) (n : Int) :
  BkAt ((W.setRow q (b.cells o p)).setRow r x.cells) q b o p ∧ CgAt ((W.setRow q (b.cells o p)).setRow r x.cells) r x ∧ B3 w (b, x, n) (.returned (.tuple #[b.V o p, x.V, .int .i64 n])) ((W.setRow q (b.cells o p)).setRow r x.cells) := by
 have ne : q ≠ r := At.ne hq hr (by decide)
 have a1 : BkAt (W.setRow q (b.cells o p)) q b o p := At.setRow hq _
 have r1 : CgAt (W.setRow q (b.cells o p)) r z' := At.farRow hr (Ne.symm ne)
 have a2 : BAt (W.setRow q (b.cells o p)) b o p := ha.farRow hq (by decide) (by decide)
 exact ⟨At.farRow a1 ne, At.setRow r1 _, o, p, rfl, a2.farRow r1 (by decide) (by decide), setRow_below (setRow_below hb l1 _) l2 _⟩
def BvAt (b : Bk) (v : Value) (w : World) : Prop := ∃ o p, v = b.V o p ∧ BAt w b o p
theorem BvAt.keep {b : Bk} {v : Value} {w w' : World} (h : BvAt b v w) (hb : Below w.heap.size w w') : BvAt b v w' := by
 obtain ⟨o, p, rfl, h⟩ := h
 exact ⟨o, p, rfl, h.step hb⟩
set_option maxRecDepth 100000 in
set_option maxHeartbeats 1600000 in
theorem changed_any {b : Bk} {o p : Option Addr} {x : Cg} {w : World} (hb : BAt w b o p) (h : x.car = 0 ∨ 1 ≤ x.car ∧ x.car ≤ 4) (hrm : 0 < b.rm) (hix : 0 ≤ b.ix ∧ b.ix ≤ top) : Calls Tryz.prog 34 #[b.V o p, x.V] w (B3 w (changedB b x)) := by
 have HT := Lib.hid (XSt.new w b o p x)
 have HA := Lib.hid (hb.step HT.out.bel); clear hb
 have CO0 := fun W => isOver_any b o p W
 have hw : IntKind.i64.wrap (b.ix + 1) = b.ix + 1 := by unfold top at hix; exact IntWalk.i64_in _ (by omega)
 clear hix
 by_cases ht : b.ix = top
 ·rw [show (b.ix == top) = true by simpa using ht] at CO0
  rw [show changedB b x = (zb, zg, 5) from if_pos ht]
  have CO := Lib.hid CO0; clear CO0 ht h hrm
  go_enter Tryz.func34, Tryz.ntmps34
  go_upto_region 1 with fail
  obtain ⟨W, hW⟩ : ∃ W, (((w.alloc (.cells (b.cells o p) 37)).alloc (.cells x.cells 48)).alloc (.cells Z29 37)).alloc (.cells Z11 48) = W := ⟨_, rfl⟩
  rw [hW] at HT HA ⊢; clear hW
  generalize w.heap.size + 1 + 1 + 1 = r at HT ⊢
  generalize w.heap.size + 1 + 1 = q at HT ⊢
  generalize w.heap.size + 1 = s at HT ⊢
  generalize w.heap.size = g at HT ⊢
  have HG := Lib.hid HT.out.bk
  go_wp2_with ((with_reducible apply wpList_load_bk (h := HG.out)); exact rfl; exact rfl; exact rfl)
  refine (CO.out _).mono ?_
  rintro e w1 ⟨rfl, hb1⟩
  have H1 := Lib.hid (HT.out.step hb1); clear HT HG HA CO hb1
  have HF := Lib.hid (fin3 (x := zg) H1.out.ans H1.out.an2 H1.out.bel H1.out.lo.2.2.1 H1.out.lo.2.2.2 (BAt.zero w1) 5)
  have HQ := Lib.hid H1.out.ans
  have HR : Hid (CgAt (w1.setRow q (zb.cells none none)) r zg) := Lib.hid (At.farRow H1.out.an2 (At.ne H1.out.an2 H1.out.ans (by decide)))
  go_wp2_with (first | ((with_reducible apply wpList_build_zb); exact rfl; exact rfl) | ((with_reducible apply wpList_build_zg); exact rfl; exact rfl) | ((with_reducible apply wpList_store_bk (b := zb) (s := none) (t := none) (hq := HQ.out)); exact rfl; exact rfl; exact rfl; exact rfl) | ((with_reducible apply wpList_store_cg (c := zg) (hq := HR.out)); exact rfl; exact rfl; exact rfl; exact rfl))
  exact bodyPost_ret (results_three Tryz.results34 rfl rfl rfl HF.out.1 HF.out.2.1) rfl HF.out.2.2
 ·rw [show (b.ix == top) = false by simpa using ht] at CO0
  rw [show changedB b x = (withB b { x with ix := b.ix + 1 }, { x with ix := b.ix + 1 }, 0) from if_neg ht]
  have CO := Lib.hid CO0; clear CO0 ht
  have HC := Lib.hid h; have HRM := Lib.hid hrm; clear h hrm
  go_enter Tryz.func34, Tryz.ntmps34
  go_upto_region 1 with fail
  obtain ⟨W, hW⟩ : ∃ W, (((w.alloc (.cells (b.cells o p) 37)).alloc (.cells x.cells 48)).alloc (.cells Z29 37)).alloc (.cells Z11 48) = W := ⟨_, rfl⟩
  rw [hW] at HT HA ⊢; clear hW
  generalize w.heap.size + 1 + 1 + 1 = r at HT ⊢
  generalize w.heap.size + 1 + 1 = q at HT ⊢
  generalize w.heap.size + 1 = s at HT ⊢
  generalize w.heap.size = g at HT ⊢
  have HG := Lib.hid HT.out.bk
  go_wp2_with ((with_reducible apply wpList_load_bk (h := HG.out)); exact rfl; exact rfl; exact rfl)
  refine (CO.out _).mono ?_
  rintro e w1 ⟨rfl, hb1⟩
  have H1 := Lib.hid (HT.out.step hb1); have A1 := Lib.hid (HA.out.step hb1); clear HT HG HA CO hb1
  have k18 := H1.out.bk.k18; have k0 := H1.out.cg.k0; have f0 := At.frozen H1.out.cg 0
  go_upto_region 4 with fail
  have H2 := Lib.hid (H1.out.setI (b.ix + 1))
  have A2 := Lib.hid (A1.out.far (i := 0) (u := .int .i64 (b.ix + 1)) H1.out.cg (by decide) (by decide))
  clear H1 A1 k18 k0 f0
  have hcx : ({ x with ix := b.ix + 1 } : Cg).car = 0 ∨ 1 ≤ ({ x with ix := b.ix + 1 } : Cg).car ∧ ({ x with ix := b.ix + 1 } : Cg).car ≤ 4 := HC.out
  generalize hy : ({ x with ix := b.ix + 1 } : Cg) = y at H2 hcx
  have HY := Lib.hid hy; clear hy
  obtain ⟨w2, hw2⟩ : ∃ w2, w1.setCell ⟨s, 0, none⟩ (.int .i64 (b.ix + 1)) = w2 := ⟨_, rfl⟩
  rw [hw2] at H2 A2 ⊢; clear hw2
  have HCX := Lib.hid hcx; clear hcx HC hw
  refine AnyOrder.region_store2 4 [.eq (b.V o p), .eq (y.V), .of (BvAt (withB b y)), .eq (y.V)] (fun wx => Below w2.heap.size w2 wx) 3 18 4 17 37 (y.V) _ _ (by kernel_rfl) (by kernel_rfl) rfl (by kernel_rfl) rfl rfl (by decide) rfl rfl rfl rfl rfl (by decide) rfl (fun a w w1 hJ hd hr hs => by obtain ⟨o4, p4, e, _⟩ := hd 2 17 (by decide) (by decide) rfl; have e3 : a.eval (.tmp 3) = ptr s 0 := AnyOrder.old_of hr 3 (by kernel_rfl); have e4 : a.eval (.tmp 4) = ptr q 0 := AnyOrder.old_of hr 4 (by kernel_rfl); have hx := H2.out.step hJ; have hs := hs.symm.trans (run_store_bkr e4 e hx.ans); injection hs with _ hs; subst hs; exact run_load_cg e3 (At.farRow hx.cg (At.ne hx.cg hx.ans (by decide)))) (below_drewN (Below.refl _ _) 1) (by intro p wa wb hp hj hb v hv; simp at hp; subst hp; exact BvAt.keep hv hb) ?_ ?_
  ·intro i o listed a1 w2 hin ho st hl hdep
   match i, ho with
   | 0, ho => (injection ho with ho; subst ho; have e0 : a1.eval (.tmp 2) = ptr g 0 := st.old hl 2 (by kernel_rfl); exact AnyOrder.sv rfl rfl (b.V o p) (run_load_bk e0 (At.step H2.out.bk st.inv)) st.inv (Below.refl _ _) rfl)
   | 1, ho => (injection ho with ho; subst ho; have e0 : a1.eval (.tmp 3) = ptr s 0 := st.old hl 3 (by kernel_rfl); exact AnyOrder.sv rfl rfl (y.V) (run_load_cg e0 (At.step H2.out.cg st.inv)) st.inv (Below.refl _ _) rfl)
   | 2, ho => (injection ho with ho; subst ho; have ec := AnyOrder.evc a1; have ef := AnyOrder.evf a1; have e0 : a1.eval (.tmp 15) = b.V o p := st.done 0 15 (hdep ⟨0, .data⟩ (by simp) rfl) rfl; have e1 : a1.eval (.tmp 16) = y.V := st.done 1 16 (hdep ⟨1, .data⟩ (by simp) rfl) rfl; exact AnyOrder.step_call rfl (AnyOrder.wanted_none rfl) 52 #[b.V o p, y.V] (by generalize a1.eval = ρ at ec ef e0 e1 ⊢; simp [execOp, ec, ef, e0, e1, go_sem]) ((with_any (A2.out.step st.inv) HCX.out HRM.out).mono (fun e w4 h => by obtain ⟨o4, p4, rfl, ho, hb⟩ := h; exact ⟨_, rfl, st.inv.trans (hb.mono st.inv.size), hb, o4, p4, rfl, ho⟩)))
   | 3, ho => (injection ho with ho; subst ho; have e0 : a1.eval (.tmp 3) = ptr s 0 := st.old hl 3 (by kernel_rfl); exact AnyOrder.sv rfl rfl (y.V) (run_load_cg e0 (At.step H2.out.cg st.inv)) st.inv (Below.refl _ _) rfl)
   | n + 4, ho => exact absurd hin (by omega)
  ·intro w3 hJ3
   simp only [AnyOrder.finK, List.take_succ_cons, List.take_zero, List.drop_succ_cons, List.drop_zero, Act.put, List.setIfInBounds_toArray, List.set_cons_zero, List.set_cons_succ]
   intro v2 h2
   obtain ⟨o4, p4, rfl, h4⟩ := h2
   have H3 := Lib.hid (H2.out.step hJ3)
   refine ⟨_, run_store_bkr rfl rfl H3.out.ans, ?_⟩
   have HF := Lib.hid (fin3 (x := y) H3.out.ans H3.out.an2 H3.out.bel H3.out.lo.2.2.1 H3.out.lo.2.2.2 h4 0)
   have HR : Hid (CgAt (w3.setRow q ((withB b y).cells o4 p4)) r zg) := Lib.hid (At.farRow H3.out.an2 (At.ne H3.out.an2 H3.out.ans (by decide)))
   clear H2 A2 hJ3 h4 H3
   go_wp2_with ((with_reducible apply wpList_store_cg (c := y) (hq := HR.out)); exact rfl; exact rfl; exact rfl; exact rfl)
   exact bodyPost_ret (results_three Tryz.results34 rfl rfl rfl HF.out.1 HF.out.2.1) rfl (by obtain rfl := HY.out; exact HF.out.2.2)
def modesTo (j : Nat) : List Int := (List.range 4).map (fun i => if i < j then 1 else 0)
theorem modesTo_len (j : Nat) : (modesTo j).length = 4 := by simp [modesTo]
theorem modesTo_set {j : Nat} (h : j < 4) : (modesTo j).set j 1 = modesTo (j + 1) := by
 match j, h with
 | 0, _ => decide
 | 1, _ => decide
 | 2, _ => decide
 | 3, _ => decide
def newBk (c : Cfg) (j : Nat) : Bk := ⟨c, 0, [], [], (c.get 3).toNat, modesTo j, modesTo_len j⟩
def newB (c : Cfg) : Bk := if okc c = true then newBk c (c.get 1).toNat else zb
theorem built_book (c : Cfg) (r : Nat) : Tryz.prog.built 37 [(0, c.V), (2, sv none 0 r), (3, sv none 0 r)] = some ((⟨c, 0, [], [], r, modesTo 0, modesTo_len 0⟩ : Bk).cells none none) := by
 obtain ⟨n, s, hl⟩ := c
 match n, hl with
 | [a0, a1, a2, a3, a4, a5, a6, a7, a8, a9, a10, a11, a12, a13, a14, a15, a16], _ => show _ = _; kernel_rfl
theorem newSv_any (n : Int) (w : World) : Calls Tryz.prog 42 #[.int .i64 n] w fun e w' => e = .returned (sv none 0 (Sh.rm n)) ∧ Below w.heap.size w w' := by
 refine (Sh.new_any n w).mono ?_
 rintro e w' ⟨v, rfl, ⟨vt, t, rfl, ht, hk, _⟩, hb⟩
 cases t with
 | nil => obtain rfl : vt = .pointer none := ht; exact ⟨rfl, hb⟩
 | node l p x r => rw [Sh.Plain.T.kvs_node] at hk; simp at hk
theorem run_alloc32 {ρ : Operand → Value} {w : World} {d : Option Tmp} {t : TypeId} {pos : String} {af : Array Edge} {gd : Option (Nat × Bool)} : (execOp ρ { dst := d, op := Op.alloc 37, type := t, pos := pos, after := af, guard := gd }).run Tryz.prog w = .ok (.value (ptr w.heap.size 0)) (w.alloc (.cells (zb.cells none none) 37)) := by
 simp [execOp, go_sem]
 rfl
theorem run_build_book {ρ : Operand → Value} {w : World} {x y z : Tmp} {c : Cfg} {r : Nat} {d : Option Tmp} {t : TypeId} {pos : String} {af : Array Edge} {gd : Option (Nat × Bool)} (e1 : ρ (.tmp x) = c.V) (e2 : ρ (.tmp y) = sv none 0 r) (e3 : ρ (.tmp z) = sv none 0 r) :
  (execOp ρ { dst := d, op := Op.build 37 #[(0, .tmp x), (2, .tmp y), (3, .tmp z)], type := t, pos := pos, after := af, guard := gd }).run Tryz.prog w = .ok (.value ((⟨c, 0, [], [], r, modesTo 0, modesTo_len 0⟩ : Bk).V none none)) w := by
 have hf : Tryz.prog.built 37 ((#[(0, Operand.tmp x), (2, .tmp y), (3, .tmp z)] : Array (Nat × Operand)).map fun (i, u) => (i, ρ u)).toList = some ((⟨c, 0, [], [], r, modesTo 0, modesTo_len 0⟩ : Bk).cells none none) := by
  simp only [List.map_toArray, List.map_cons, List.map_nil, e1, e2, e3]
  exact built_book c r
 unfold execOp
 simp only [Sem.run_bind, run_build w 37 _ _ hf, Result.andThen_ok, Sem.run_pure]
structure NSt (w W : World) (g q t : Nat) (c : Cfg) (b : Bk) : Prop where
 bel : Below w.heap.size w W
 cat : CAt W g c
 ans : BkAt W q zb none none
 bk : BkAt W t b none none
 lo : w.heap.size ≤ q ∧ w.heap.size ≤ t
 ne : q ≠ t
theorem NSt.setM {w W : World} {g q t j : Nat} {c : Cfg} (h : NSt w W g q t c (newBk c j)) (hj : j < 4) : NSt w (W.setCell ⟨t, 25 + j, none⟩ (.int .i64 1)) g q t c (newBk c (j + 1)) := by
 have hm := h.bk.setM hj 1
 have e : ({ newBk c j with m := (newBk c j).m.set j 1, ml := by rw [List.length_set]; exact (newBk c j).ml } : Bk) = newBk c (j + 1) := by
  simp only [newBk, modesTo_set hj]
 rw [e] at hm
 exact ⟨h.bel.setCell h.lo.2 _, At.far h.cat (At.ne h.cat h.bk (by decide)) _, At.far h.ans h.ne _, hm, h.lo, h.ne⟩
theorem newBk_at (w : World) (c : Cfg) (j : Nat) (h : okc c = true) : BAt w (newBk c j) none none := by
 have h3 : lo 3 ≤ c.get 3 ∧ c.get 3 ≤ hi 3 := ok_at h (by decide)
 have h3 : (1 : Int) ≤ c.get 3 ∧ c.get 3 ≤ 64 := h3
 have e : (newBk c j).rm = (c.get 3).toNat := rfl
 exact ⟨Sh.sat_nil w _ (by omega), Sh.sat_nil w _ (by omega)⟩
set_option maxRecDepth 100000 in
set_option maxHeartbeats 1600000 in
theorem newBook_no (c : Cfg) (w : World) (h : okc c = false) : Calls Tryz.prog 25 #[c.V] w (BAns w (newB c)) := by
 have H := Lib.hid (new2 w c.cells Z29 24 37)
 rw [show newB c = zb from if_neg (by rw [h]; decide)]
 have CK0 := fun W => check_any c W
 rw [chk_no h] at CK0
 have CK := Lib.hid CK0; clear CK0 h
 go_enter Tryz.func25, Tryz.ntmps25
 go_upto_region 1 with fail
 obtain ⟨W, hW⟩ : ∃ W, (w.alloc (.cells c.cells 24)).alloc (.cells Z29 37) = W := ⟨_, rfl⟩
 rw [hW] at H ⊢; clear hW
 have HC : Hid (CAt W w.heap.size c) := Lib.hid H.out.2.1
 have HQ0 : Hid (BkAt W (w.heap.size + 1) zb none none) := Lib.hid H.out.2.2
 have HB0 := Lib.hid H.out.1; clear H
 have lo : w.heap.size ≤ w.heap.size + 1 := by omega
 generalize w.heap.size + 1 = q at *
 go_wp2_with ((with_reducible apply wpList_load_cat (h := HC.out)); exact rfl; exact rfl; exact rfl)
 refine (CK.out _).mono ?_
 rintro e w1 ⟨rfl, hb1⟩
 have HQ : Hid (BkAt w1 q zb none none) := Lib.hid (HQ0.out.step hb1)
 have HB := Lib.hid (HB0.out.trans (hb1.mono HB0.out.size))
 clear HC HQ0 HB0 CK hb1
 go_wp2_with (first | ((with_reducible apply wpList_build_zb); exact rfl; exact rfl) | ((with_reducible apply wpList_store_bk (b := zb) (s := none) (t := none) (hq := HQ.out)); exact rfl; exact rfl; exact rfl; exact rfl))
 exact bodyPost_ret (results_one Tryz.results25 rfl (At.setRow HQ.out _)) rfl ⟨none, none, rfl, (BAt.zero w1).farRow HQ.out (by decide) (by decide), setRow_below HB.out lo _⟩
set_option maxRecDepth 100000 in
set_option maxHeartbeats 1600000 in
theorem newBook_ok (c : Cfg) (w : World) (h : okc c = true) : Calls Tryz.prog 25 #[c.V] w (BAns w (newB c)) := by
 have H := Lib.hid (new2 w c.cells Z29 24 37)
 rw [show newB c = newBk c (c.get 1).toNat from if_pos h]
 have CK0 := fun W => check_any c W
 rw [chk_ok h] at CK0
 have CK := Lib.hid CK0; clear CK0
 have h3 : lo 3 ≤ c.get 3 ∧ c.get 3 ≤ hi 3 := ok_at h (by decide)
 have h3 : (1 : Int) ≤ c.get 3 ∧ c.get 3 ≤ 64 := h3
 have h1 : lo 1 ≤ c.get 1 ∧ c.get 1 ≤ hi 1 := ok_at h (by decide)
 have h1 : (1 : Int) ≤ c.get 1 ∧ c.get 1 ≤ 4 := h1
 have erm : Sh.rm (c.get 3) = (c.get 3).toNat := if_neg (by omega)
 obtain ⟨n, hn, hn4⟩ : ∃ n : Nat, c.get 1 = (n : Int) ∧ n ≤ 4 := ⟨(c.get 1).toNat, by omega, by omega⟩
 have et : (c.get 1).toNat = n := by omega
 rw [et]
 have HOK := Lib.hid h; have HRM := Lib.hid erm; have HN := Lib.hid hn; have HN4 := Lib.hid hn4
 clear h h3 h1 erm hn et hn4
 go_enter Tryz.func25, Tryz.ntmps25
 go_upto_region 1 with fail
 obtain ⟨W, hW⟩ : ∃ W, (w.alloc (.cells c.cells 24)).alloc (.cells Z29 37) = W := ⟨_, rfl⟩
 rw [hW] at H ⊢; clear hW
 have HC0 : Hid (CAt W w.heap.size c) := Lib.hid H.out.2.1
 have HQ0 : Hid (BkAt W (w.heap.size + 1) zb none none) := Lib.hid H.out.2.2
 have HB0 := Lib.hid H.out.1; clear H
 have lo : w.heap.size ≤ w.heap.size + 1 := by omega
 generalize w.heap.size + 1 = q at *
 go_wp2_with ((with_reducible apply wpList_load_cat (h := HC0.out)); exact rfl; exact rfl; exact rfl)
 refine (CK.out _).mono ?_
 rintro e w1 ⟨rfl, hb1⟩
 have HQ : Hid (BkAt w1 q zb none none) := Lib.hid (HQ0.out.step hb1)
 have HC : Hid (CAt w1 w.heap.size c) := Lib.hid (HC0.out.step hb1)
 have HB := Lib.hid (HB0.out.trans (hb1.mono HB0.out.size))
 clear HC0 HQ0 HB0 CK hb1
 go_upto_region 3 with fail
 refine AnyOrder.region_kinds2 9 [.eq (c.V), .eq (ptr w.heap.size 3), .eq (.int .i64 (c.get 3)), .eq (sv none 0 (c.get 3).toNat), .eq (ptr w.heap.size 3), .eq (.int .i64 (c.get 3)), .eq (sv none 0 (c.get 3).toNat), .eq ((newBk c 0).V none none), .of (AnyOrder.Fresh w1 37 (zb.cells none none))] (fun wx => Below w1.heap.size w1 wx) (by kernel_rfl) (by kernel_rfl) rfl (by kernel_rfl) (below_drewN (Below.refl _ _) 1) (fun p w w2 hp _ hb v hv => by simp at hp; subst hp; exact AnyOrder.Fresh.keep hv hb) ?_ ?_
 ·intro i o listed a1 w2 hin ho st hl hdep
  match i, ho with
  | 0, ho => (injection ho with ho; subst ho; have e0 : a1.eval (.tmp 1) = ptr w.heap.size 0 := st.old hl 1 (by kernel_rfl); exact AnyOrder.sv rfl rfl (c.V) (run_load_cfg e0 (CAt.step HC.out st.inv)) st.inv (Below.refl _ _) rfl)
  | 1, ho => (injection ho with ho; subst ho; have ec := AnyOrder.evc a1; have ef := AnyOrder.evf a1; have e0 : a1.eval (.tmp 1) = ptr w.heap.size 0 := st.old hl 1 (by kernel_rfl); exact AnyOrder.sv rfl rfl (ptr w.heap.size 3) (by generalize a1.eval = ρ at ec ef e0 ⊢; simp [execOp, ec, ef, e0, IntWalk.i64_left, go_sem]) st.inv (Below.refl _ _) rfl)
  | 2, ho => (injection ho with ho; subst ho; have ec := AnyOrder.evc a1; have ef := AnyOrder.evf a1; have e0 : a1.eval (.tmp 10) = ptr w.heap.size 3 := st.done 1 10 (hdep ⟨1, .data⟩ (by simp) rfl) rfl; exact AnyOrder.sv rfl rfl (.int .i64 (c.get 3)) (by have hk := CAt.get (CAt.step HC.out st.inv) (k := 3) (by decide); generalize a1.eval = ρ at ec ef e0 ⊢; simp [execOp, e0, go_sem, hk]) st.inv (Below.refl _ _) rfl)
  | 3, ho => (injection ho with ho; subst ho; have ec := AnyOrder.evc a1; have ef := AnyOrder.evf a1; have e0 : a1.eval (.tmp 11) = .int .i64 (c.get 3) := st.done 2 11 (hdep ⟨2, .data⟩ (by simp) rfl) rfl; exact AnyOrder.step_call rfl (AnyOrder.wanted_none rfl) 42 #[.int .i64 (c.get 3)] (by generalize a1.eval = ρ at ec ef e0 ⊢; simp [execOp, ec, ef, e0, go_sem]) (((show Calls _ _ _ w2 (fun e w4 => e = .returned (sv none 0 (c.get 3).toNat) ∧ Below w2.heap.size w2 w4) from by have h := newSv_any (c.get 3) w2; rwa [HRM.out] at h)).mono (fun e w3 h => by obtain ⟨rfl, hb⟩ := h; exact ⟨_, rfl, st.inv.trans (hb.mono st.inv.size), hb, rfl⟩)))
  | 4, ho => (injection ho with ho; subst ho; have ec := AnyOrder.evc a1; have ef := AnyOrder.evf a1; have e0 : a1.eval (.tmp 1) = ptr w.heap.size 0 := st.old hl 1 (by kernel_rfl); exact AnyOrder.sv rfl rfl (ptr w.heap.size 3) (by generalize a1.eval = ρ at ec ef e0 ⊢; simp [execOp, ec, ef, e0, IntWalk.i64_left, go_sem]) st.inv (Below.refl _ _) rfl)
  | 5, ho => (injection ho with ho; subst ho; have ec := AnyOrder.evc a1; have ef := AnyOrder.evf a1; have e0 : a1.eval (.tmp 13) = ptr w.heap.size 3 := st.done 4 13 (hdep ⟨4, .data⟩ (by simp) rfl) rfl; exact AnyOrder.sv rfl rfl (.int .i64 (c.get 3)) (by have hk := CAt.get (CAt.step HC.out st.inv) (k := 3) (by decide); generalize a1.eval = ρ at ec ef e0 ⊢; simp [execOp, e0, go_sem, hk]) st.inv (Below.refl _ _) rfl)
  | 6, ho => (injection ho with ho; subst ho; have ec := AnyOrder.evc a1; have ef := AnyOrder.evf a1; have e0 : a1.eval (.tmp 14) = .int .i64 (c.get 3) := st.done 5 14 (hdep ⟨5, .data⟩ (by simp) rfl) rfl; exact AnyOrder.step_call rfl (AnyOrder.wanted_none rfl) 42 #[.int .i64 (c.get 3)] (by generalize a1.eval = ρ at ec ef e0 ⊢; simp [execOp, ec, ef, e0, go_sem]) (((show Calls _ _ _ w2 (fun e w4 => e = .returned (sv none 0 (c.get 3).toNat) ∧ Below w2.heap.size w2 w4) from by have h := newSv_any (c.get 3) w2; rwa [HRM.out] at h)).mono (fun e w3 h => by obtain ⟨rfl, hb⟩ := h; exact ⟨_, rfl, st.inv.trans (hb.mono st.inv.size), hb, rfl⟩)))
  | 7, ho => (injection ho with ho; subst ho; have e0 : a1.eval (.tmp 9) = c.V := st.done 0 9 (hdep ⟨0, .data⟩ (by simp) rfl) rfl; have e1 : a1.eval (.tmp 12) = sv none 0 (c.get 3).toNat := st.done 3 12 (hdep ⟨3, .data⟩ (by simp) rfl) rfl; have e2 : a1.eval (.tmp 15) = sv none 0 (c.get 3).toNat := st.done 6 15 (hdep ⟨6, .data⟩ (by simp) rfl) rfl; exact AnyOrder.sv rfl rfl ((newBk c 0).V none none) (run_build_book e0 e1 e2) st.inv (Below.refl _ _) rfl)
  | 8, ho => (injection ho with ho; subst ho; exact AnyOrder.sv rfl rfl (ptr w2.heap.size 0) run_alloc32 (st.inv.alloc st.inv.size _) (below_new _ _) ⟨_, rfl, st.inv.size, by simp, heap_alloc_new _ _⟩)
  | n + 9, ho => exact absurd hin (by omega)
 ·intro w3 hJ3
  simp only [AnyOrder.finK, List.take_succ_cons, List.take_zero, List.drop_succ_cons, List.drop_zero, Act.put, List.setIfInBounds_toArray, List.set_cons_zero, List.set_cons_succ]
  rintro v ⟨t, rfl, lt1, lt2, ht⟩
  have HT : Hid (BkAt w3 t zb none none) := Lib.hid ht
  have hst : NSt w (w3.setRow t ((newBk c 0).cells none none)) w.heap.size q t c (newBk c 0) := by
   have hq : q ≠ t := by have := At.lt HQ.out; omega
   have hg : w.heap.size ≠ t := by have := At.lt HC.out; omega
   have b3 := HB.out.trans (hJ3.mono HB.out.size)
   have lt : w.heap.size ≤ t := Nat.le_trans HB.out.size lt1
   exact ⟨setRow_below b3 lt _, At.farRow (CAt.step HC.out hJ3) hg, At.farRow (At.step HQ.out hJ3) hq, At.setRow HT.out _, ⟨lo, lt⟩, hq⟩
  have HST0 := Lib.hid hst
  clear hst ht lt1 lt2 hJ3 HQ HC HB
  go_upto_region 4 with ((with_reducible apply wpList_store_bk (b := newBk c 0) (s := none) (t := none) (hq := HT.out)); exact rfl; exact rfl; exact rfl; exact rfl)
  obtain ⟨w4, hw4⟩ : ∃ w4, w3.setRow t ((newBk c 0).cells none none) = w4 := ⟨_, rfl⟩
  rw [hw4] at HST0 ⊢; clear hw4 HT
  have kc := CAt.get HST0.out.cat (k := 1) (by decide)
  rw [HN.out] at kc
  go_wp2_with fail
  go_loopg [19] n (fun gh s19 wx => ∃ j : Nat, j ≤ n ∧ gh = n - j ∧ s19 = .int .i64 (j : Int) ∧ NSt w wx w.heap.size q t c (newBk c j))
  case atStart => exact ⟨0, Nat.zero_le _, rfl, rfl, HST0.out⟩
  case round =>
   obtain ⟨j, hj, hg, rfl, hst⟩ := hrel
   have HG := Lib.hid hg; clear hg HST0
   by_cases hlt : j < n
   ·have hj4 : j < 4 := by have := HN4.out; omega
    have b3 : (j : Int) < (n : Int) := by omega
    have b4 : (0 : Int) ≤ (j : Int) := by omega
    have b5 : (j : Int) < 4 := by omega
    have kM := hst.bk.kM hj4; have fM := At.frozen hst.bk (25 + j)
    have HST := Lib.hid (hst.setM hj4); clear hst
    go_wp2_with fail
    go_roundg (n - (j + 1))
    case measure => have := HG.out; omega
    case rel => exact ⟨j + 1, by omega, rfl, rfl, HST.out⟩
   ·obtain rfl : j = n := by omega
    have HST := Lib.hid hst; clear hst
    have HQ := Lib.hid HST.out.ans; have HK := Lib.hid HST.out.bk
    go_wp2_with (first | ((with_reducible apply wpList_load_bk (h := HK.out)); exact rfl; exact rfl; exact rfl) | ((with_reducible apply wpList_store_bk (b := newBk c j) (s := none) (t := none) (hq := HQ.out)); exact rfl; exact rfl; exact rfl; exact rfl))
    exact bodyPost_ret (results_one Tryz.results25 rfl (At.setRow HQ.out _)) rfl ⟨none, none, rfl, (newBk_at wr c j HOK.out).farRow HQ.out (by decide) (by decide), setRow_below HST.out.bel HST.out.lo.1 _⟩
theorem newBook_any (c : Cfg) (w : World) : Calls Tryz.prog 25 #[c.V] w (BAns w (newB c)) := by
 cases h : okc c
 ·exact newBook_no c w h
 ·exact newBook_ok c w h
end Go.Proofs.YtplapoenhohliaaGreat
