import Derived.Test.YtplapoenhohliaaGreatBkI
namespace Go.Proofs.YtplapoenhohliaaGreat
open Go.RowKit Go.Lib
open Sh.Plain (KV get put del Rise)
set_option linter.unusedVariables false
set_option linter.unusedSimpArgs false
def plainK (x : K) : K := { x with id := 0, st := 0, own := 0, born := 0 }
def isSetB (b : Bk) (x : Cg) : Bool := x.k.beq zk && haveB b x.car x.mode
def isPlB (b : Bk) (x : Cg) : Bool := ((newA b.c (plainK x.k) x.ix x.k.own x.k.born).2 == 0) && x.beq ⟨x.ix, (newA b.c (plainK x.k) x.ix x.k.own x.k.born).1, 0, 0⟩
def isOnB (b : Bk) (x : Cg) : Bool := match get x.k.id b.live with
 | none => false
 | some a => x.beq ⟨x.ix, x.k, 0, 0⟩ && mayK b.c a x.k
def applyB (b : Bk) (x : Cg) : Bk × Int :=
 if b.c.beq zc = true then (zb, 3) else if x.ix ≠ b.ix + 1 ∨ (isPlB b x || isOnB b x || isSetB b x) = false then (zb, 1)
 else if isPlB b x = true ∧ b.live.length = b.rm ∨ b.ix = top then (zb, 5) else (withB b x, 0)
structure ZSt (w W : World) (g s : Nat) (b : Bk) (o p : Option Addr) (x : Cg) : Prop where
 bel : Below w.heap.size w W
 bk : BkAt W g b o p
 cg : CgAt W s x
theorem ZSt.step {w W W' : World} {g s : Nat} {b : Bk} {o p : Option Addr} {x : Cg} (h : ZSt w W g s b o p x) (hb : Below W.heap.size W W') : ZSt w W' g s b o p x := ⟨h.bel.trans (hb.mono h.bel.size), h.bk.step hb, h.cg.step hb⟩
theorem ZSt.new (w : World) (b : Bk) (o p : Option Addr) (x : Cg) : ZSt w ((w.alloc (.cells (b.cells o p) 37)).alloc (.cells x.cells 48)) w.heap.size (w.heap.size + 1) b o p x := by
 obtain ⟨h1, h2, h3⟩ := new2 w (b.cells o p) x.cells 37 48
 exact ⟨h1, h2, h3⟩
theorem built_kc (n : Int) (k : K) : Tryz.prog.built 48 [(0, .int .i64 n), (1, k.V)] = some (⟨n, k, 0, 0⟩ : Cg).cells := by kernel_rfl
theorem run_build_kc {ρ : Operand → Value} {w : World} {x y : Tmp} {c : K} {n : Int} {d : Option Tmp} {t : TypeId} {pos : String} {af : Array Edge} {gd : Option (Nat × Bool)} (e1 : ρ (.tmp x) = .int .i64 n) (e2 : ρ (.tmp y) = c.V) :
  (execOp ρ { dst := d, op := Op.build 48 #[(0, .tmp x), (1, .tmp y)], type := t, pos := pos, after := af, guard := gd }).run Tryz.prog w = .ok (.value (⟨n, c, 0, 0⟩ : Cg).V) w := by
 have hf : Tryz.prog.built 48 ((#[(0, Operand.tmp x), (1, .tmp y)] : Array (Nat × Operand)).map fun (i, u) => (i, ρ u)).toList = some (⟨n, c, 0, 0⟩ : Cg).cells := by
  simp only [List.map_toArray, List.map_cons, List.map_nil, e1, e2]
  exact built_kc n c
 unfold execOp
 simp only [Sem.run_bind, run_build w 48 _ _ hf, Result.andThen_ok, Sem.run_pure]
theorem wpList_build_kc {ops : Array Oper} {rest : List Oper} {o : Oper} {a : Act} {w : World} {Q : Exit → Act → World → Prop} (x y : Tmp) (ho : o.op = .build 48 #[(0, .tmp x), (1, .tmp y)]) (hgd : Region.wanted o (yielded ops a.tmps) = true) {c : K} {n : Int} (e1 : a.eval (.tmp x) = .int .i64 n) (e2 : a.eval (.tmp y) = c.V)
  (k : wpList Tryz.prog ops Q rest (a.put o.dst (⟨n, c, 0, 0⟩ : Cg).V) w) : wpList Tryz.prog ops Q (o :: rest) a w := by
 obtain ⟨dd, op, t, pos, af, gd⟩ := o
 subst ho
 exact wpList_run hgd _ (run_build_kc e1 e2) k
set_option maxRecDepth 100000 in
set_option maxHeartbeats 1600000 in
theorem isSet_any {b : Bk} {o p : Option Addr} {x : Cg} {w : World} (hb : BAt w b o p) : Calls Tryz.prog 79 #[b.V o p, x.V] w (Yes w (isSetB b x)) := by
 have HT := Lib.hid (ZSt.new w b o p x)
 have HA := Lib.hid (hb.step HT.out.bel); clear hb
 have CH0 := fun W => canHave_any (b := b) (o := o) (p := p) x.car x.mode W
 have CH : Hid (∀ W, Calls Tryz.prog 38 #[b.V o p, .int .i64 x.car, .int .i64 x.mode] W (Yes W (haveB b x.car x.mode))) := Lib.hid CH0
 clear CH0
 unfold isSetB
 generalize haveB b x.car x.mode = t at *
 cases hk : x.k.beq zk
 ·have HK := Lib.hid hk; clear hk
  go_enter Tryz.func79, Tryz.ntmps79
  go_upto_region 1 with fail
  obtain ⟨W, hW⟩ : ∃ W, (w.alloc (.cells (b.cells o p) 37)).alloc (.cells x.cells 48) = W := ⟨_, rfl⟩
  rw [hW] at HT HA ⊢; clear hW
  generalize w.heap.size + 1 = s at HT ⊢
  generalize w.heap.size = g at HT ⊢
  have HP := Lib.hid HT.out.cg.kk
  go_wp2_with (first | ((with_reducible apply wpList_load_kpart (c := x.k) (h := HP.out)); exact rfl; exact rfl; exact rfl) | ((with_reducible apply wpList_build_zk); exact rfl; exact rfl) | ((with_reducible apply wpList_eql_kat (c := x.k) (d := zk) (hb := HK.out)); exact rfl; exact rfl; exact rfl; exact rfl))
  go_ret
  exact ⟨rfl, HT.out.bel⟩
 ·have HK := Lib.hid hk; clear hk
  go_enter Tryz.func79, Tryz.ntmps79
  go_upto_region 1 with fail
  obtain ⟨W, hW⟩ : ∃ W, (w.alloc (.cells (b.cells o p) 37)).alloc (.cells x.cells 48) = W := ⟨_, rfl⟩
  rw [hW] at HT HA ⊢; clear hW
  generalize w.heap.size + 1 = s at HT ⊢
  generalize w.heap.size = g at HT ⊢
  have HP := Lib.hid HT.out.cg.kk; have HG := Lib.hid HT.out.bk
  have k9 := HT.out.cg.k9; have k10 := HT.out.cg.k10
  go_wp2_with (first | ((with_reducible apply wpList_load_kpart (c := x.k) (h := HP.out)); exact rfl; exact rfl; exact rfl) | ((with_reducible apply wpList_build_zk); exact rfl; exact rfl) | ((with_reducible apply wpList_load_bk (h := HG.out)); exact rfl; exact rfl; exact rfl) | ((with_reducible apply wpList_eql_kat (c := x.k) (d := zk) (hb := HK.out)); exact rfl; exact rfl; exact rfl; exact rfl) | (go_at_call 38; (with_reducible refine (CH.out _).mono ?_)))
  rintro e w1 ⟨rfl, hb1⟩
  go_wp2_with fail
  go_ret
  exact ⟨rfl, HT.out.bel.trans (hb1.mono HT.out.bel.size)⟩
set_option maxRecDepth 100000 in
set_option maxHeartbeats 1600000 in
theorem isPlaced_any {b : Bk} {o p : Option Addr} {x : Cg} {w : World} (hb : BAt w b o p) : Calls Tryz.prog 77 #[b.V o p, x.V] w (Yes w (isPlB b x)) := by
 have HT := Lib.hid (ZSt.new w b o p x)
 have HA := Lib.hid (hb.step HT.out.bel); clear hb
 have CN0 := fun W => newA_any b.c (plainK x.k) x.ix x.k.own x.k.born W
 unfold isPlB
 generalize newA b.c (plainK x.k) x.ix x.k.own x.k.born = rr at *
 obtain ⟨k, z⟩ := rr
 have CN : Hid (∀ W, Calls Tryz.prog 32 #[b.c.V, (plainK x.k).V, .int .i64 x.ix, .int .i64 x.k.own, .int .i64 x.k.born] W (Ans W (k, z))) := Lib.hid CN0
 clear CN0
 show Calls Tryz.prog _ _ w (Yes w ((z == 0) && x.beq ⟨x.ix, k, 0, 0⟩))
 generalize ht : x.beq ⟨x.ix, k, 0, 0⟩ = t
 have HTT := Lib.hid ht; clear ht
 by_cases hz : z = 0
 ·subst hz
  have et : ((0 : Int) == 0 && t) = t := by simp
  rw [et]; clear et
  go_enter Tryz.func77, Tryz.ntmps77
  go_upto_region 1 with fail
  obtain ⟨W, hW⟩ : ∃ W, (w.alloc (.cells (b.cells o p) 37)).alloc (.cells x.cells 48) = W := ⟨_, rfl⟩
  rw [hW] at HT HA ⊢; clear hW
  generalize w.heap.size + 1 = s at HT ⊢
  generalize w.heap.size = g at HT ⊢
  have HP := Lib.hid HT.out.cg.kk
  go_upto_region 2 with (first | ((with_reducible apply wpList_load_kpart (c := x.k) (h := HP.out)); exact rfl; exact rfl; exact rfl) | ((with_reducible apply wpList_store_knew (c := x.k)); exact rfl; exact rfl; exact rfl; exact rfl))
  have b2 := below_new W (.cells x.k.cells 46)
  have hk2 := KAt.new W x.k
  obtain ⟨w2, hw2⟩ : ∃ w2, W.alloc (.cells x.k.cells 46) = w2 := ⟨_, rfl⟩
  rw [hw2] at b2 hk2 ⊢; clear hw2
  have H2 := Lib.hid (HT.out.step b2); have hsz := H2.out.bel.size; have hgk : w.heap.size ≤ W.heap.size := HT.out.bel.size
  have hlo : Hid (W.heap.size ≤ W.heap.size) := Lib.hid (Nat.le_refl _)
  have HB2 := Lib.hid b2
  generalize W.heap.size = gk at *
  have k0 := hk2.get0; have f0 := At.frozen hk2 0
  have h2 := hk2.set0 0; have k5 := h2.get5; have f5 := At.frozen h2 5
  have h3 := h2.set5 0; have k6 := h3.get6; have f6 := At.frozen h3 6
  have h4 := h3.set6 0; have k7 := h4.get7; have f7 := At.frozen h4 7
  have h5 : KAt _ gk (plainK x.k) := h4.set7 0
  have HK5 := Lib.hid h5
  have c2 := H2.out.cg; have g2 := H2.out.bk
  have nc : s ≠ gk := At.ne c2 hk2 (by decide)
  have ng : g ≠ gk := At.ne g2 hk2 (by decide)
  have HC5 : Hid (CgAt ((((w2.setCell ⟨gk, 0, none⟩ (.int .i64 0)).setCell ⟨gk, 5, none⟩ (.int .i64 0)).setCell ⟨gk, 6, none⟩ (.int .i64 0)).setCell ⟨gk, 7, none⟩ (.int .i64 0)) s x) := Lib.hid ((((c2.far nc _).far nc _).far nc _).far nc _)
  have HG5 : Hid (BkAt ((((w2.setCell ⟨gk, 0, none⟩ (.int .i64 0)).setCell ⟨gk, 5, none⟩ (.int .i64 0)).setCell ⟨gk, 6, none⟩ (.int .i64 0)).setCell ⟨gk, 7, none⟩ (.int .i64 0)) g b o p) := Lib.hid ((((g2.far ng _).far ng _).far ng _).far ng _)
  have HBL : Hid (Below w.heap.size w ((((w2.setCell ⟨gk, 0, none⟩ (.int .i64 0)).setCell ⟨gk, 5, none⟩ (.int .i64 0)).setCell ⟨gk, 6, none⟩ (.int .i64 0)).setCell ⟨gk, 7, none⟩ (.int .i64 0))) := Lib.hid ((((H2.out.bel.setCell hgk _).setCell hgk _).setCell hgk _).setCell hgk _)
  clear h2 h3 h4 h5 c2 g2 nc ng hk2 b2 hsz HP HT HA hlo hgk
  go_upto_region 3 with fail
  obtain ⟨w5, hw5⟩ : ∃ w5, (((w2.setCell ⟨gk, 0, none⟩ (.int .i64 0)).setCell ⟨gk, 5, none⟩ (.int .i64 0)).setCell ⟨gk, 6, none⟩ (.int .i64 0)).setCell ⟨gk, 7, none⟩ (.int .i64 0) = w5 := ⟨_, rfl⟩
  rw [hw5] at HK5 HC5 HG5 HBL ⊢; clear hw5 H2 HB2 k0 f0 k5 f5 k6 f6 k7 f7
  have HC := Lib.hid HG5.out.kc; have j0 := HC5.out.k0; have j7 := HC5.out.k7; have j8 := HC5.out.k8
  go_upto_region 4 with (first | ((with_reducible apply wpList_load_cpart (c := b.c) (h := HC.out)); exact rfl; exact rfl; exact rfl) | ((with_reducible apply wpList_load_kat (h := HK5.out)); exact rfl; exact rfl; exact rfl) | (go_at_call 32; (with_reducible refine (CN.out _).mono ?_); rintro e w6 ⟨rfl, hb6⟩) | ((with_reducible apply wpList_store_knew (c := k)); exact rfl; exact rfl; exact rfl; exact rfl))
  have b7 : Below w5.heap.size w5 (w6.alloc (.cells k.cells 46)) := hb6.trans ((below_new _ _).mono hb6.size)
  have hk7 := KAt.new w6 k
  obtain ⟨w7, hw7⟩ : ∃ w7, w6.alloc (.cells k.cells 46) = w7 := ⟨_, rfl⟩
  rw [hw7] at b7 hk7 ⊢; clear hw7
  have HK7 := Lib.hid hk7; have HX : Hid (CgAt w7 s x) := Lib.hid (HC5.out.step b7); have HBF := Lib.hid (HBL.out.trans (b7.mono HBL.out.size))
  clear HK5 HC5 HG5 HBL HC j0 j7 j8 CN hb6 b7 hk7
  generalize w6.heap.size = g7 at *
  have j0 := HX.out.k0
  go_wp2_with (first | ((with_reducible apply wpList_load_cg (h := HX.out)); exact rfl; exact rfl; exact rfl) | ((with_reducible apply wpList_load_kat (h := HK7.out)); exact rfl; exact rfl; exact rfl) | ((with_reducible apply wpList_build_kc (c := k) (n := x.ix)); exact rfl; exact rfl; exact rfl; exact rfl) | ((with_reducible apply wpList_eql_cg (c := x) (d := ⟨x.ix, k, 0, 0⟩) (hb := HTT.out)); exact rfl; exact rfl; exact rfl; exact rfl))
  go_ret
  exact ⟨rfl, HBF.out⟩
 ·have d2 : decide (z = 0) = false := by simpa using hz
  have n2 : (z != 0) = true := by simpa using hz
  have q2 : (z == 0) = false := by simpa using hz
  have et : (z == 0 && t) = false := by rw [q2]; rfl
  rw [et]; clear et hz
  go_enter Tryz.func77, Tryz.ntmps77
  go_upto_region 1 with fail
  obtain ⟨W, hW⟩ : ∃ W, (w.alloc (.cells (b.cells o p) 37)).alloc (.cells x.cells 48) = W := ⟨_, rfl⟩
  rw [hW] at HT HA ⊢; clear hW
  generalize w.heap.size + 1 = s at HT ⊢
  generalize w.heap.size = g at HT ⊢
  have HP := Lib.hid HT.out.cg.kk
  go_upto_region 2 with (first | ((with_reducible apply wpList_load_kpart (c := x.k) (h := HP.out)); exact rfl; exact rfl; exact rfl) | ((with_reducible apply wpList_store_knew (c := x.k)); exact rfl; exact rfl; exact rfl; exact rfl))
  have b2 := below_new W (.cells x.k.cells 46)
  have hk2 := KAt.new W x.k
  obtain ⟨w2, hw2⟩ : ∃ w2, W.alloc (.cells x.k.cells 46) = w2 := ⟨_, rfl⟩
  rw [hw2] at b2 hk2 ⊢; clear hw2
  have H2 := Lib.hid (HT.out.step b2); have hsz := H2.out.bel.size; have hgk : w.heap.size ≤ W.heap.size := HT.out.bel.size
  have hlo : Hid (W.heap.size ≤ W.heap.size) := Lib.hid (Nat.le_refl _)
  have HB2 := Lib.hid b2
  generalize W.heap.size = gk at *
  have k0 := hk2.get0; have f0 := At.frozen hk2 0
  have h2 := hk2.set0 0; have k5 := h2.get5; have f5 := At.frozen h2 5
  have h3 := h2.set5 0; have k6 := h3.get6; have f6 := At.frozen h3 6
  have h4 := h3.set6 0; have k7 := h4.get7; have f7 := At.frozen h4 7
  have h5 : KAt _ gk (plainK x.k) := h4.set7 0
  have HK5 := Lib.hid h5
  have c2 := H2.out.cg; have g2 := H2.out.bk
  have nc : s ≠ gk := At.ne c2 hk2 (by decide)
  have ng : g ≠ gk := At.ne g2 hk2 (by decide)
  have HC5 : Hid (CgAt ((((w2.setCell ⟨gk, 0, none⟩ (.int .i64 0)).setCell ⟨gk, 5, none⟩ (.int .i64 0)).setCell ⟨gk, 6, none⟩ (.int .i64 0)).setCell ⟨gk, 7, none⟩ (.int .i64 0)) s x) := Lib.hid ((((c2.far nc _).far nc _).far nc _).far nc _)
  have HG5 : Hid (BkAt ((((w2.setCell ⟨gk, 0, none⟩ (.int .i64 0)).setCell ⟨gk, 5, none⟩ (.int .i64 0)).setCell ⟨gk, 6, none⟩ (.int .i64 0)).setCell ⟨gk, 7, none⟩ (.int .i64 0)) g b o p) := Lib.hid ((((g2.far ng _).far ng _).far ng _).far ng _)
  have HBL : Hid (Below w.heap.size w ((((w2.setCell ⟨gk, 0, none⟩ (.int .i64 0)).setCell ⟨gk, 5, none⟩ (.int .i64 0)).setCell ⟨gk, 6, none⟩ (.int .i64 0)).setCell ⟨gk, 7, none⟩ (.int .i64 0))) := Lib.hid ((((H2.out.bel.setCell hgk _).setCell hgk _).setCell hgk _).setCell hgk _)
  clear h2 h3 h4 h5 c2 g2 nc ng hk2 b2 hsz HP HT HA hlo hgk
  go_upto_region 3 with fail
  obtain ⟨w5, hw5⟩ : ∃ w5, (((w2.setCell ⟨gk, 0, none⟩ (.int .i64 0)).setCell ⟨gk, 5, none⟩ (.int .i64 0)).setCell ⟨gk, 6, none⟩ (.int .i64 0)).setCell ⟨gk, 7, none⟩ (.int .i64 0) = w5 := ⟨_, rfl⟩
  rw [hw5] at HK5 HC5 HG5 HBL ⊢; clear hw5 H2 HB2 k0 f0 k5 f5 k6 f6 k7 f7
  have HC := Lib.hid HG5.out.kc; have j0 := HC5.out.k0; have j7 := HC5.out.k7; have j8 := HC5.out.k8
  go_upto_region 4 with (first | ((with_reducible apply wpList_load_cpart (c := b.c) (h := HC.out)); exact rfl; exact rfl; exact rfl) | ((with_reducible apply wpList_load_kat (h := HK5.out)); exact rfl; exact rfl; exact rfl) | (go_at_call 32; (with_reducible refine (CN.out _).mono ?_); rintro e w6 ⟨rfl, hb6⟩) | ((with_reducible apply wpList_store_knew (c := k)); exact rfl; exact rfl; exact rfl; exact rfl))
  have b7 : Below w5.heap.size w5 (w6.alloc (.cells k.cells 46)) := hb6.trans ((below_new _ _).mono hb6.size)
  have hk7 := KAt.new w6 k
  obtain ⟨w7, hw7⟩ : ∃ w7, w6.alloc (.cells k.cells 46) = w7 := ⟨_, rfl⟩
  rw [hw7] at b7 hk7 ⊢; clear hw7
  have HK7 := Lib.hid hk7; have HX : Hid (CgAt w7 s x) := Lib.hid (HC5.out.step b7); have HBF := Lib.hid (HBL.out.trans (b7.mono HBL.out.size))
  clear HK5 HC5 HG5 HBL HC j0 j7 j8 CN hb6 b7 hk7
  generalize w6.heap.size = g7 at *
  have j0 := HX.out.k0
  go_wp2_with (first | ((with_reducible apply wpList_load_cg (h := HX.out)); exact rfl; exact rfl; exact rfl) | ((with_reducible apply wpList_load_kat (h := HK7.out)); exact rfl; exact rfl; exact rfl) | ((with_reducible apply wpList_build_kc (c := k) (n := x.ix)); exact rfl; exact rfl; exact rfl; exact rfl) | ((with_reducible apply wpList_eql_cg (c := x) (d := ⟨x.ix, k, 0, 0⟩) (hb := HTT.out)); exact rfl; exact rfl; exact rfl; exact rfl))
  go_ret
  exact ⟨rfl, HBF.out⟩
set_option maxRecDepth 100000 in
set_option maxHeartbeats 1600000 in
theorem isOn_none {b : Bk} {o p : Option Addr} {x : Cg} {w : World} (hb : BAt w b o p) (hg : get x.k.id b.live = none) : Calls Tryz.prog 78 #[b.V o p, x.V] w (Yes w (isOnB b x)) := by
 have HT := Lib.hid (ZSt.new w b o p x)
 have HA := Lib.hid (hb.step HT.out.bel); clear hb
 rw [show isOnB b x = false from by unfold isOnB; rw [hg]]
 have CG : Hid (∀ W, Sh.SAt W (sv o b.live.length b.rm) b.live b.rm → Calls Tryz.prog 53 #[sv o b.live.length b.rm, .int .i64 x.k.id] W fun e w' => e = .returned (.tuple #[zk.V, .bool false]) ∧ Below W.heap.size W w') := Lib.hid (fun W h => by have := Sh.get_any x.k.id h; rwa [hg] at this)
 clear hg
 go_enter Tryz.func78, Tryz.ntmps78
 go_upto_region 1 with fail
 obtain ⟨W, hW⟩ : ∃ W, (w.alloc (.cells (b.cells o p) 37)).alloc (.cells x.cells 48) = W := ⟨_, rfl⟩
 rw [hW] at HT HA ⊢; clear hW
 generalize w.heap.size + 1 = s at HT ⊢
 generalize w.heap.size = g at HT ⊢
 have CGW := Lib.hid (CG.out W HA.out.1)
 have k19 := HT.out.bk.k19; have k20 := HT.out.bk.k20; have k21 := HT.out.bk.k21; have k1 := HT.out.cg.k1
 go_upto_region 2 with (first | (go_at_call 53; (with_reducible refine CGW.out.mono ?_); rintro e w1 ⟨rfl, hb1⟩) | ((with_reducible apply wpList_store_knew (c := zk)); exact rfl; exact rfl; exact rfl; exact rfl))
 have b2 : Below W.heap.size W (w1.alloc (.cells (zk).cells 46)) := hb1.trans ((below_new _ _).mono hb1.size)
 have hk2 := KAt.new w1 (zk)
 obtain ⟨w2, hw2⟩ : ∃ w2, w1.alloc (.cells (zk).cells 46) = w2 := ⟨_, rfl⟩
 rw [hw2] at b2 hk2 ⊢; clear hw2
 have H2 := Lib.hid (HT.out.step b2); have HK := Lib.hid hk2
 clear HT HA CG CGW k19 k20 k21 k1 hb1 b2 hk2
 generalize w1.heap.size = gk at *
 have HX : Hid (CgAt w2 s x) := Lib.hid H2.out.cg
 have HP := Lib.hid HX.out.kk; have j0 := HX.out.k0; have HC := Lib.hid H2.out.bk.kc
 go_wp2_with fail
 go_ret
 exact ⟨rfl, H2.out.bel⟩
set_option maxRecDepth 100000 in
set_option maxHeartbeats 1600000 in
theorem isOn_some {b : Bk} {o p : Option Addr} {x : Cg} {a : K} {w : World} (hb : BAt w b o p) (hg : get x.k.id b.live = some a) : Calls Tryz.prog 78 #[b.V o p, x.V] w (Yes w (isOnB b x)) := by
 have HT := Lib.hid (ZSt.new w b o p x)
 have HA := Lib.hid (hb.step HT.out.bel); clear hb
 rw [show isOnB b x = (x.beq ⟨x.ix, x.k, 0, 0⟩ && mayK b.c a x.k) from by unfold isOnB; rw [hg]]
 have CG : Hid (∀ W, Sh.SAt W (sv o b.live.length b.rm) b.live b.rm → Calls Tryz.prog 53 #[sv o b.live.length b.rm, .int .i64 x.k.id] W fun e w' => e = .returned (.tuple #[a.V, .bool true]) ∧ Below W.heap.size W w') := Lib.hid (fun W h => by have := Sh.get_any x.k.id h; rwa [hg] at this)
 clear hg
 have CM := Lib.hid (fun W => may_any b.c a x.k W)
 generalize mayK b.c a x.k = t at *
 cases he : x.beq ⟨x.ix, x.k, 0, 0⟩
 ·have HE := Lib.hid he; clear he
  go_enter Tryz.func78, Tryz.ntmps78
  go_upto_region 1 with fail
  obtain ⟨W, hW⟩ : ∃ W, (w.alloc (.cells (b.cells o p) 37)).alloc (.cells x.cells 48) = W := ⟨_, rfl⟩
  rw [hW] at HT HA ⊢; clear hW
  generalize w.heap.size + 1 = s at HT ⊢
  generalize w.heap.size = g at HT ⊢
  have CGW := Lib.hid (CG.out W HA.out.1)
  have k19 := HT.out.bk.k19; have k20 := HT.out.bk.k20; have k21 := HT.out.bk.k21; have k1 := HT.out.cg.k1
  go_upto_region 2 with (first | (go_at_call 53; (with_reducible refine CGW.out.mono ?_); rintro e w1 ⟨rfl, hb1⟩) | ((with_reducible apply wpList_store_knew (c := a)); exact rfl; exact rfl; exact rfl; exact rfl))
  have b2 : Below W.heap.size W (w1.alloc (.cells (a).cells 46)) := hb1.trans ((below_new _ _).mono hb1.size)
  have hk2 := KAt.new w1 (a)
  obtain ⟨w2, hw2⟩ : ∃ w2, w1.alloc (.cells (a).cells 46) = w2 := ⟨_, rfl⟩
  rw [hw2] at b2 hk2 ⊢; clear hw2
  have H2 := Lib.hid (HT.out.step b2); have HK := Lib.hid hk2
  clear HT HA CG CGW k19 k20 k21 k1 hb1 b2 hk2
  generalize w1.heap.size = gk at *
  have HX : Hid (CgAt w2 s x) := Lib.hid H2.out.cg
  have HP := Lib.hid HX.out.kk; have j0 := HX.out.k0; have HC := Lib.hid H2.out.bk.kc
  go_wp2_with (first | ((with_reducible apply wpList_load_cg (h := HX.out)); exact rfl; exact rfl; exact rfl) | ((with_reducible apply wpList_load_kpart (c := x.k) (h := HP.out)); exact rfl; exact rfl; exact rfl) | ((with_reducible apply wpList_build_kc (c := x.k) (n := x.ix)); exact rfl; exact rfl; exact rfl; exact rfl) | ((with_reducible apply wpList_eql_cg (c := x) (d := ⟨x.ix, x.k, 0, 0⟩) (hb := HE.out)); exact rfl; exact rfl; exact rfl; exact rfl))
  go_ret
  exact ⟨rfl, H2.out.bel⟩
 ·have HE := Lib.hid he; clear he
  go_enter Tryz.func78, Tryz.ntmps78
  go_upto_region 1 with fail
  obtain ⟨W, hW⟩ : ∃ W, (w.alloc (.cells (b.cells o p) 37)).alloc (.cells x.cells 48) = W := ⟨_, rfl⟩
  rw [hW] at HT HA ⊢; clear hW
  generalize w.heap.size + 1 = s at HT ⊢
  generalize w.heap.size = g at HT ⊢
  have CGW := Lib.hid (CG.out W HA.out.1)
  have k19 := HT.out.bk.k19; have k20 := HT.out.bk.k20; have k21 := HT.out.bk.k21; have k1 := HT.out.cg.k1
  go_upto_region 2 with (first | (go_at_call 53; (with_reducible refine CGW.out.mono ?_); rintro e w1 ⟨rfl, hb1⟩) | ((with_reducible apply wpList_store_knew (c := a)); exact rfl; exact rfl; exact rfl; exact rfl))
  have b2 : Below W.heap.size W (w1.alloc (.cells (a).cells 46)) := hb1.trans ((below_new _ _).mono hb1.size)
  have hk2 := KAt.new w1 (a)
  obtain ⟨w2, hw2⟩ : ∃ w2, w1.alloc (.cells (a).cells 46) = w2 := ⟨_, rfl⟩
  rw [hw2] at b2 hk2 ⊢; clear hw2
  have H2 := Lib.hid (HT.out.step b2); have HK := Lib.hid hk2
  clear HT HA CG CGW k19 k20 k21 k1 hb1 b2 hk2
  generalize w1.heap.size = gk at *
  have HX : Hid (CgAt w2 s x) := Lib.hid H2.out.cg
  have HP := Lib.hid HX.out.kk; have j0 := HX.out.k0; have HC := Lib.hid H2.out.bk.kc
  go_wp2_with (first | ((with_reducible apply wpList_load_cg (h := HX.out)); exact rfl; exact rfl; exact rfl) | ((with_reducible apply wpList_load_kpart (c := x.k) (h := HP.out)); exact rfl; exact rfl; exact rfl) | ((with_reducible apply wpList_load_cpart (c := b.c) (h := HC.out)); exact rfl; exact rfl; exact rfl) | ((with_reducible apply wpList_load_kat (h := HK.out)); exact rfl; exact rfl; exact rfl) | ((with_reducible apply wpList_build_kc (c := x.k) (n := x.ix)); exact rfl; exact rfl; exact rfl; exact rfl) | ((with_reducible apply wpList_eql_cg (c := x) (d := ⟨x.ix, x.k, 0, 0⟩) (hb := HE.out)); exact rfl; exact rfl; exact rfl; exact rfl) | (go_at_call 94; (with_reducible refine (CM.out _).mono ?_)))
  rintro e w3 ⟨rfl, hb3⟩
  go_wp2_with fail
  go_ret
  exact ⟨rfl, H2.out.bel.trans (hb3.mono H2.out.bel.size)⟩
theorem isOn_any {b : Bk} {o p : Option Addr} {x : Cg} {w : World} (hb : BAt w b o p) : Calls Tryz.prog 78 #[b.V o p, x.V] w (Yes w (isOnB b x)) := by
 cases hg : get x.k.id b.live with
 | none => exact isOn_none hb hg
 | some a => exact isOn_some hb hg
end Go.Proofs.YtplapoenhohliaaGreat
