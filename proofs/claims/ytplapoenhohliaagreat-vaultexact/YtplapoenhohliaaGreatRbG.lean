import Derived.Test.YtplapoenhohliaaGreatRbF
namespace Go.Proofs.YtplapoenhohliaaGreat
open Go.RowKit Go.Lib
open Sh.Plain (KV get put del Rise)
set_option linter.unusedVariables false
set_option linter.unusedSimpArgs false
def askedK (k : K) : K := ⟨0, k.kind, k.frm, k.dto, k.car, 0, 0, 0⟩
def p2 (r : U × Cg × Int) : U × Int := (r.1, r.2.2)
def badP (u : U) (x : Cg) : Bool := (x.k.id != x.ix) || ((x.k.st != 1) || ((chkK u.c (askedK x.k) != 0) || badA x.k.own x.k.born))
def applyU (u : U) (x : Cg) : U × Int :=
 if u.is = false then (zu, 3) else if x.ix < 1 ∨ wrap64 (x.ix - 1) ≠ u.ix then (zu, 1)
 else if x.k.beq zk = true then p2 (setU u x.car x.mode)
 else if x.car ≠ 0 ∨ x.mode ≠ 0 then (zu, 1)
 else match seekK x.k.id u.live with
  | some a => if mayK u.c a x.k = true then p2 (nextU u x.k) else (zu, 1)
  | none => if badP u x = true then (zu, 1) else p2 (nextU u x.k)
structure AU (w wx : World) (g s q : Nat) (u : U) (sl sd : Sl) (x : Cg) : Prop where
 bel : Below w.heap.size w wx
 bk : UkAt wx g u sl sd
 cg : CgAt wx s x
 ans : UkAt wx q zu s0 s0
 lo : w.heap.size ≤ q
section
variable {w W wx : World} {g s q : Nat} {u : U} {sl sd : Sl} {x : Cg}
theorem AU.new (w : World) (u : U) (sl sd : Sl) (x : Cg) : ∀ W, W = ((w.alloc (.cells (u.cells sl sd) 65)).alloc (.cells x.cells 48)).alloc (.cells Z26 65) → AU w W w.heap.size (w.heap.size + 1) (w.heap.size + 1 + 1) u sl sd x := by
 rintro W rfl
 obtain ⟨h1, h2, h3, h4⟩ := new3 w (u.cells sl sd) x.cells Z26 65 48 65
 exact ⟨h1, h2, h3, h4, by omega⟩
theorem AU.step (h : AU w W g s q u sl sd x) (hb : Below W.heap.size W wx) : AU w wx g s q u sl sd x := ⟨h.bel.trans (hb.mono h.bel.size), At.step h.bk hb, At.step h.cg hb, At.step h.ans hb, h.lo⟩
theorem AU.good (h : AU w wx g s q u sl sd x) {b : U} {o p : Sl} (ha : UAt wx b o p) (n : Int) : UkAt (wx.setRow q (b.cells o p)) q b o p ∧ U2 w (b, n) (.returned (.tuple #[b.V o p, .int .i64 n])) (wx.setRow q (b.cells o p)) :=
 ⟨At.setRow h.ans _, o, p, rfl, ha.farRow h.ans (by decide), setRow_below h.bel h.lo _⟩
end
theorem made2U (v : World) (b : U) (o p : Sl) (x : Cg) : Below v.heap.size v ((((v.alloc (.cells Z26 65)).alloc (.cells Z11 48)).setRow v.heap.size (b.cells o p)).setRow (v.heap.size + 1) x.cells) ∧ UkAt ((((v.alloc (.cells Z26 65)).alloc (.cells Z11 48)).setRow v.heap.size (b.cells o p)).setRow (v.heap.size + 1) x.cells) v.heap.size b o p ∧ UkAt ((v.alloc (.cells Z26 65)).alloc (.cells Z11 48)) v.heap.size zu s0 s0 ∧ CgAt (((v.alloc (.cells Z26 65)).alloc (.cells Z11 48)).setRow v.heap.size (b.cells o p)) (v.heap.size + 1) zg := by
 obtain ⟨h1, h2, h3⟩ := new2 v Z26 Z11 65 48
 have h2' : UkAt ((v.alloc (.cells Z26 65)).alloc (.cells Z11 48)) v.heap.size zu s0 s0 := h2
 have h3' : CgAt ((v.alloc (.cells Z26 65)).alloc (.cells Z11 48)) (v.heap.size + 1) zg := h3
 have k1 : UkAt (((v.alloc (.cells Z26 65)).alloc (.cells Z11 48)).setRow v.heap.size (b.cells o p)) v.heap.size b o p := At.setRow h2' _
 have k2 : CgAt (((v.alloc (.cells Z26 65)).alloc (.cells Z11 48)).setRow v.heap.size (b.cells o p)) (v.heap.size + 1) zg := At.farRow h3' (by omega)
 exact ⟨below_setRow (below_setRow h1 (Nat.le_refl _) _) (by omega) _, At.farRow k1 (by omega), h2', k2⟩
theorem wpList_build_asked (y1 y2 y3 y4 : Tmp) {ops : Array Oper} {rest : List Oper} {o : Oper} {a : Act} {w : World} {Q : Exit → Act → World → Prop} (ho : o.op = .build 46 #[(1, .tmp y1), (2, .tmp y2), (3, .tmp y3), (4, .tmp y4)]) (hgd : o.guard = none) {k : K} (e1 : a.eval (.tmp y1) = .int .i64 k.kind) (e2 : a.eval (.tmp y2) = .int .i64 k.frm) (e3 : a.eval (.tmp y3) = .int .i64 k.dto) (e4 : a.eval (.tmp y4) = .int .i64 k.car) (h : wpList Tryz.prog ops Q rest (a.put o.dst (askedK k).V) w) : wpList Tryz.prog ops Q (o :: rest) a w :=
 wpList_build_as hgd 46 _ ho (askedK k).cells (by simp only [List.map_toArray, List.map_cons, List.map_nil, e1, e2, e3, e4]; show _ = some _; kernel_rfl) h
set_option maxRecDepth 100000 in
set_option maxHeartbeats 4000000 in
theorem applyU_nil {u : U} {sl sd : Sl} {x : Cg} {w : World} (ha : UAt w u sl sd) (hok : u.Ok) (hi : u.is = false) : Calls Tryz.prog 39 #[u.V sl sd, x.V] w (U2 w (applyU u x)) := by
 have HT := Lib.hid (AU.new w u sl sd x _ rfl)
 have HA := Lib.hid (ha.step HT.out.bel)
 have HOK := Lib.hid hok; clear hok ha
 have HIS := Lib.hid hi
 have HRES : Hid (applyU u x = (zu, 3)) := Lib.hid (by unfold applyU; rw [if_pos hi])
 clear hi
 go_enter Tryz.func39, Tryz.ntmps39
 go_upto_region 1 with fail
 obtain ⟨W, hW⟩ : ∃ W, ((w.alloc (.cells (u.cells sl sd) 65)).alloc (.cells x.cells 48)).alloc (.cells Z26 65) = W := ⟨_, rfl⟩
 rw [hW] at HT HA ⊢; clear hW
 generalize w.heap.size + 1 + 1 = q at HT ⊢
 generalize w.heap.size + 1 = s at HT ⊢
 obtain ⟨g, hg⟩ : ∃ g, w.heap.size = g := ⟨_, rfl⟩
 rw [hg] at HT ⊢; clear hg
 have k18 := UkAt.k18 HT.out.bk
 rw [HIS.out] at k18
 have k19 := UkAt.k19 HT.out.bk; have k0 := CgAt.k0 HT.out.cg
 have HQ := Lib.hid HT.out.ans
 have HF := Lib.hid (HT.out.good (UAt.zero _) 3)
 go_wp2_with (first | ((with_reducible apply wpList_build_zu); exact rfl; exact rfl) | ((with_reducible apply wpList_store_uk (b := zu) (s := s0) (t := s0) (hq := HQ.out)); exact rfl; exact rfl; exact rfl; exact rfl))
 exact bodyPost_ret (results_u2 Tryz.results39 rfl rfl HF.out.1) rfl (by rw [HRES.out]; exact HF.out.2)
set_option maxRecDepth 100000 in
set_option maxHeartbeats 4000000 in
theorem applyU_index {u : U} {sl sd : Sl} {x : Cg} {w : World} (ha : UAt w u sl sd) (hok : u.Ok) (hi : u.is = true) (hx : x.ix < 1 ∨ wrap64 (x.ix - 1) ≠ u.ix) : Calls Tryz.prog 39 #[u.V sl sd, x.V] w (U2 w (applyU u x)) := by
 have HT := Lib.hid (AU.new w u sl sd x _ rfl)
 have HA := Lib.hid (ha.step HT.out.bel)
 have HOK := Lib.hid hok; clear hok ha
 have HIS := Lib.hid hi
 have HRES : Hid (applyU u x = (zu, 1)) := Lib.hid (by unfold applyU; rw [if_neg (by rw [hi]; decide), if_pos hx])
 clear hi
 by_cases h1 : x.ix < 1
 ·have d1 : decide (x.ix < 1) = true := by simpa using h1
  clear h1 hx
  go_enter Tryz.func39, Tryz.ntmps39
  go_upto_region 1 with fail
  obtain ⟨W, hW⟩ : ∃ W, ((w.alloc (.cells (u.cells sl sd) 65)).alloc (.cells x.cells 48)).alloc (.cells Z26 65) = W := ⟨_, rfl⟩
  rw [hW] at HT HA ⊢; clear hW
  generalize w.heap.size + 1 + 1 = q at HT ⊢
  generalize w.heap.size + 1 = s at HT ⊢
  obtain ⟨g, hg⟩ : ∃ g, w.heap.size = g := ⟨_, rfl⟩
  rw [hg] at HT ⊢; clear hg
  have k18 := UkAt.k18 HT.out.bk
  rw [HIS.out] at k18
  have k19 := UkAt.k19 HT.out.bk; have k0 := CgAt.k0 HT.out.cg
  have HQ := Lib.hid HT.out.ans
  have HF := Lib.hid (HT.out.good (UAt.zero _) 1)
  go_wp2_with (first | ((with_reducible apply wpList_build_zu); exact rfl; exact rfl) | ((with_reducible apply wpList_store_uk (b := zu) (s := s0) (t := s0) (hq := HQ.out)); exact rfl; exact rfl; exact rfl; exact rfl))
  exact bodyPost_ret (results_u2 Tryz.results39 rfl rfl HF.out.1) rfl (by rw [HRES.out]; exact HF.out.2)
 ·have d1 : decide (x.ix < 1) = false := by simpa using h1
  have h2 : wrap64 (x.ix - 1) ≠ u.ix := hx.resolve_left h1
  have n2 : (wrap64 (x.ix - 1) != u.ix) = true := by simpa using h2
  have n3 : decide (wrap64 (x.ix - 1) = u.ix) = false := by simpa using h2
  have n4 : (wrap64 (x.ix - 1) == u.ix) = false := by simpa using h2
  have m2 : (IntKind.i64.wrap (x.ix - 1) != u.ix) = true := by rw [IntWalk.i64_left]; exact n2
  have m3 : decide (IntKind.i64.wrap (x.ix - 1) = u.ix) = false := by rw [IntWalk.i64_left]; exact n3
  clear h1 h2 hx
  go_enter Tryz.func39, Tryz.ntmps39
  go_upto_region 1 with fail
  obtain ⟨W, hW⟩ : ∃ W, ((w.alloc (.cells (u.cells sl sd) 65)).alloc (.cells x.cells 48)).alloc (.cells Z26 65) = W := ⟨_, rfl⟩
  rw [hW] at HT HA ⊢; clear hW
  generalize w.heap.size + 1 + 1 = q at HT ⊢
  generalize w.heap.size + 1 = s at HT ⊢
  obtain ⟨g, hg⟩ : ∃ g, w.heap.size = g := ⟨_, rfl⟩
  rw [hg] at HT ⊢; clear hg
  have k18 := UkAt.k18 HT.out.bk
  rw [HIS.out] at k18
  have k19 := UkAt.k19 HT.out.bk; have k0 := CgAt.k0 HT.out.cg
  have HQ := Lib.hid HT.out.ans
  have HF := Lib.hid (HT.out.good (UAt.zero _) 1)
  go_wp2_with (first | ((with_reducible apply wpList_build_zu); exact rfl; exact rfl) | ((with_reducible apply wpList_store_uk (b := zu) (s := s0) (t := s0) (hq := HQ.out)); exact rfl; exact rfl; exact rfl; exact rfl))
  exact bodyPost_ret (results_u2 Tryz.results39 rfl rfl HF.out.1) rfl (by rw [HRES.out]; exact HF.out.2)
set_option maxRecDepth 100000 in
set_option maxHeartbeats 4000000 in
theorem applyU_set {u : U} {sl sd : Sl} {x : Cg} {w : World} (ha : UAt w u sl sd) (hok : u.Ok) (hi : u.is = true) (h1 : ¬ x.ix < 1) (h2 : wrap64 (x.ix - 1) = u.ix) (hb : x.k.beq zk = true) : Calls Tryz.prog 39 #[u.V sl sd, x.V] w (U2 w (applyU u x)) := by
 have HT := Lib.hid (AU.new w u sl sd x _ rfl)
 have HA := Lib.hid (ha.step HT.out.bel)
 have HOK := Lib.hid hok; clear hok ha
 have HIS := Lib.hid hi; have HOC := Lib.hid (HOK.out.okc hi)
 have d1 : decide (x.ix < 1) = false := by simpa using h1
 have n2 : (wrap64 (x.ix - 1) != u.ix) = false := by simpa using h2
 have n3 : decide (wrap64 (x.ix - 1) = u.ix) = true := by simpa using h2
 have n4 : (wrap64 (x.ix - 1) == u.ix) = true := by simpa using h2
 have m2 : (IntKind.i64.wrap (x.ix - 1) != u.ix) = false := by rw [IntWalk.i64_left]; exact n2
 have m3 : decide (IntKind.i64.wrap (x.ix - 1) = u.ix) = true := by rw [IntWalk.i64_left]; exact n3
 have HSTP : Hid (applyU u x = if x.k.beq zk = true then p2 (setU u x.car x.mode) else if x.car ≠ 0 ∨ x.mode ≠ 0 then (zu, 1) else match seekK x.k.id u.live with
   | some a => if mayK u.c a x.k = true then p2 (nextU u x.k) else (zu, 1)
   | none => if badP u x = true then (zu, 1) else p2 (nextU u x.k)) := Lib.hid (by
  unfold applyU; rw [if_neg (by rw [hi]; decide), if_neg (fun h => h.elim h1 (fun h => h h2))])
 clear hi h1 h2
 have HB := Lib.hid hb
 have HRES0 : Hid (applyU u x = p2 (setU u x.car x.mode)) := Lib.hid (by rw [HSTP.out, if_pos hb])
 clear hb HSTP
 go_enter Tryz.func39, Tryz.ntmps39
 go_upto_region 1 with fail
 obtain ⟨W, hW⟩ : ∃ W, ((w.alloc (.cells (u.cells sl sd) 65)).alloc (.cells x.cells 48)).alloc (.cells Z26 65) = W := ⟨_, rfl⟩
 rw [hW] at HT HA ⊢; clear hW
 generalize w.heap.size + 1 + 1 = q at HT ⊢
 generalize w.heap.size + 1 = s at HT ⊢
 obtain ⟨g, hg⟩ : ∃ g, w.heap.size = g := ⟨_, rfl⟩
 rw [hg] at HT ⊢; clear hg
 have k18 := UkAt.k18 HT.out.bk
 rw [HIS.out] at k18
 have k19 := UkAt.k19 HT.out.bk; have k0 := CgAt.k0 HT.out.cg
 go_upto_region 5 with fail
 clear k18 k19 k0 d1 n2 n3 n4 m2 m3
 have HKK := Lib.hid (CgAt.kk HT.out.cg)
 go_upto_region 6 with (first | ((with_reducible apply wpList_load_kpart (c := x.k) (h := HKK.out)); exact rfl; exact rfl; exact rfl) | ((with_reducible apply wpList_build_zk); exact rfl; exact rfl) | ((with_reducible apply wpList_eql_kat (c := x.k) (d := zk) (hb := HB.out)); exact rfl; exact rfl; exact rfl; exact rfl))
 have k9 := CgAt.k9 HT.out.cg; have k10 := CgAt.k10 HT.out.cg
 have CS := Lib.hid (setU_any (n := x.car) (m := x.mode) HA.out HOK.out)
 obtain ⟨res, hres⟩ : ∃ r, setU u x.car x.mode = r := ⟨_, rfl⟩
 rw [hres] at CS HRES0; clear hres
 obtain ⟨rb, rc, rn⟩ := res
 have HRES : Hid (applyU u x = (rb, rn)) := Lib.hid HRES0.out
 clear HRES0
 have HU := Lib.hid HT.out.bk
 go_wp2_with ((with_reducible apply wpList_load_uk (h := HU.out)); exact rfl; exact rfl; exact rfl)
 with_reducible refine CS.out.mono ?_
 rintro e w5 ⟨o5, p5, rfl, ha5, hb5⟩
 clear k9 k10 HU CS HKK HB HA
 have HT7 := Lib.hid (HT.out.step hb5); have HA7 := Lib.hid ha5; clear HT hb5 ha5
 have hm := made2U w5 rb o5 p5 rc
 have HM1 := Lib.hid hm.1; have HM2 := Lib.hid hm.2.1; have HQ6 := Lib.hid hm.2.2.1; have HQ7 := Lib.hid hm.2.2.2; clear hm
 go_upto_region 7 with (first | ((with_reducible apply wpList_store_uk (b := rb) (s := o5) (t := p5) (hq := HQ6.out)); exact rfl; exact rfl; exact rfl; exact rfl) | ((with_reducible apply wpList_store_cg (c := rc) (hq := HQ7.out)); exact rfl; exact rfl; exact rfl; exact rfl))
 have HT8 := Lib.hid (HT7.out.step HM1.out); have HA8 := Lib.hid (HA7.out.step HM1.out); clear HT7 HA7 HQ6 HQ7 HM1
 obtain ⟨w8, hw8⟩ : ∃ y, (((w5.alloc (.cells Z26 65)).alloc (.cells Z11 48)).setRow w5.heap.size (rb.cells o5 p5)).setRow (w5.heap.size + 1) rc.cells = y := ⟨_, rfl⟩
 rw [hw8] at HT8 HA8 HM2 ⊢; clear hw8
 generalize w5.heap.size = p6 at HM2 ⊢
 have HQ := Lib.hid HT8.out.ans
 have HF := Lib.hid (HT8.out.good HA8.out rn)
 go_wp2_with (first | ((with_reducible apply wpList_load_uk (h := HM2.out)); exact rfl; exact rfl; exact rfl) | ((with_reducible apply wpList_store_uk (b := rb) (s := o5) (t := p5) (hq := HQ.out)); exact rfl; exact rfl; exact rfl; exact rfl))
 exact bodyPost_ret (results_u2 Tryz.results39 rfl rfl HF.out.1) rfl (by rw [HRES.out]; exact HF.out.2)
set_option maxRecDepth 100000 in
set_option maxHeartbeats 4000000 in
theorem applyU_car {u : U} {sl sd : Sl} {x : Cg} {w : World} (ha : UAt w u sl sd) (hok : u.Ok) (hi : u.is = true) (h1 : ¬ x.ix < 1) (h2 : wrap64 (x.ix - 1) = u.ix) (hb : x.k.beq zk = false) (hc : x.car ≠ 0 ∨ x.mode ≠ 0) : Calls Tryz.prog 39 #[u.V sl sd, x.V] w (U2 w (applyU u x)) := by
 have HT := Lib.hid (AU.new w u sl sd x _ rfl)
 have HA := Lib.hid (ha.step HT.out.bel)
 have HOK := Lib.hid hok; clear hok ha
 have HIS := Lib.hid hi; have HOC := Lib.hid (HOK.out.okc hi)
 have d1 : decide (x.ix < 1) = false := by simpa using h1
 have n2 : (wrap64 (x.ix - 1) != u.ix) = false := by simpa using h2
 have n3 : decide (wrap64 (x.ix - 1) = u.ix) = true := by simpa using h2
 have n4 : (wrap64 (x.ix - 1) == u.ix) = true := by simpa using h2
 have m2 : (IntKind.i64.wrap (x.ix - 1) != u.ix) = false := by rw [IntWalk.i64_left]; exact n2
 have m3 : decide (IntKind.i64.wrap (x.ix - 1) = u.ix) = true := by rw [IntWalk.i64_left]; exact n3
 have HSTP : Hid (applyU u x = if x.k.beq zk = true then p2 (setU u x.car x.mode) else if x.car ≠ 0 ∨ x.mode ≠ 0 then (zu, 1) else match seekK x.k.id u.live with
   | some a => if mayK u.c a x.k = true then p2 (nextU u x.k) else (zu, 1)
   | none => if badP u x = true then (zu, 1) else p2 (nextU u x.k)) := Lib.hid (by
  unfold applyU; rw [if_neg (by rw [hi]; decide), if_neg (fun h => h.elim h1 (fun h => h h2))])
 clear hi h1 h2
 have HB := Lib.hid hb
 have HRES : Hid (applyU u x = (zu, 1)) := Lib.hid (by rw [HSTP.out, if_neg (by rw [hb]; decide), if_pos hc])
 clear hb HSTP
 obtain ⟨t1, t2, n1, n5⟩ : ∃ t1 t2 : Bool, (x.car != 0) = t1 ∧ (x.mode != 0) = t2 := ⟨_, _, rfl, rfl⟩
 have e1 : decide (x.car = 0) = !t1 := by rw [← n1]; simp [bne]; rfl
 have e2 : decide (x.mode = 0) = !t2 := by rw [← n5]; simp [bne]; rfl
 have q1 : (x.car == 0) = !t1 := by rw [← n1]; simp [bne]
 have q2 : (x.mode == 0) = !t2 := by rw [← n5]; simp [bne]
 have ht : (t1 || t2) = true := by rw [← n1, ← n5]; simp [bne]; simpa using hc
 have HTT := Lib.hid ht; clear ht hc
 go_enter Tryz.func39, Tryz.ntmps39
 go_upto_region 1 with fail
 obtain ⟨W, hW⟩ : ∃ W, ((w.alloc (.cells (u.cells sl sd) 65)).alloc (.cells x.cells 48)).alloc (.cells Z26 65) = W := ⟨_, rfl⟩
 rw [hW] at HT HA ⊢; clear hW
 generalize w.heap.size + 1 + 1 = q at HT ⊢
 generalize w.heap.size + 1 = s at HT ⊢
 obtain ⟨g, hg⟩ : ∃ g, w.heap.size = g := ⟨_, rfl⟩
 rw [hg] at HT ⊢; clear hg
 have k18 := UkAt.k18 HT.out.bk
 rw [HIS.out] at k18
 have k19 := UkAt.k19 HT.out.bk; have k0 := CgAt.k0 HT.out.cg
 go_upto_region 5 with fail
 clear k18 k19 k0 d1 n2 n3 n4 m2 m3
 have HKK := Lib.hid (CgAt.kk HT.out.cg)
 go_upto_region 8 with (first | ((with_reducible apply wpList_load_kpart (c := x.k) (h := HKK.out)); exact rfl; exact rfl; exact rfl) | ((with_reducible apply wpList_build_zk); exact rfl; exact rfl) | ((with_reducible apply wpList_eql_kat (c := x.k) (d := zk) (hb := HB.out)); exact rfl; exact rfl; exact rfl; exact rfl))
 clear HKK HB
 have k9 := CgAt.k9 HT.out.cg; have k10 := CgAt.k10 HT.out.cg
 cases t1
 ·cases t2
  ·exact absurd HTT.out (by decide)
  ·clear HTT
   have HQ := Lib.hid HT.out.ans
   have HF := Lib.hid (HT.out.good (UAt.zero _) 1)
   go_wp2_with (first | ((with_reducible apply wpList_build_zu); exact rfl; exact rfl) | ((with_reducible apply wpList_store_uk (b := zu) (s := s0) (t := s0) (hq := HQ.out)); exact rfl; exact rfl; exact rfl; exact rfl))
   exact bodyPost_ret (results_u2 Tryz.results39 rfl rfl HF.out.1) rfl (by rw [HRES.out]; exact HF.out.2)
 ·clear HTT
  have HQ := Lib.hid HT.out.ans
  have HF := Lib.hid (HT.out.good (UAt.zero _) 1)
  go_wp2_with (first | ((with_reducible apply wpList_build_zu); exact rfl; exact rfl) | ((with_reducible apply wpList_store_uk (b := zu) (s := s0) (t := s0) (hq := HQ.out)); exact rfl; exact rfl; exact rfl; exact rfl))
  exact bodyPost_ret (results_u2 Tryz.results39 rfl rfl HF.out.1) rfl (by rw [HRES.out]; exact HF.out.2)
set_option maxRecDepth 100000 in
set_option maxHeartbeats 4000000 in
theorem applyU_live {u : U} {sl sd : Sl} {x : Cg} {w : World} (ha : UAt w u sl sd) (hok : u.Ok) (hi : u.is = true) (h1 : ¬ x.ix < 1) (h2 : wrap64 (x.ix - 1) = u.ix) (hb : x.k.beq zk = false) (hc : x.car = 0 ∧ x.mode = 0) (a0 : K) (hsk : seekK x.k.id u.live = some a0) : Calls Tryz.prog 39 #[u.V sl sd, x.V] w (U2 w (applyU u x)) := by
 have HT := Lib.hid (AU.new w u sl sd x _ rfl)
 have HA := Lib.hid (ha.step HT.out.bel)
 have HOK := Lib.hid hok; clear hok ha
 have HIS := Lib.hid hi; have HOC := Lib.hid (HOK.out.okc hi)
 have d1 : decide (x.ix < 1) = false := by simpa using h1
 have n2 : (wrap64 (x.ix - 1) != u.ix) = false := by simpa using h2
 have n3 : decide (wrap64 (x.ix - 1) = u.ix) = true := by simpa using h2
 have n4 : (wrap64 (x.ix - 1) == u.ix) = true := by simpa using h2
 have m2 : (IntKind.i64.wrap (x.ix - 1) != u.ix) = false := by rw [IntWalk.i64_left]; exact n2
 have m3 : decide (IntKind.i64.wrap (x.ix - 1) = u.ix) = true := by rw [IntWalk.i64_left]; exact n3
 have HSTP : Hid (applyU u x = if x.k.beq zk = true then p2 (setU u x.car x.mode) else if x.car ≠ 0 ∨ x.mode ≠ 0 then (zu, 1) else match seekK x.k.id u.live with
   | some a => if mayK u.c a x.k = true then p2 (nextU u x.k) else (zu, 1)
   | none => if badP u x = true then (zu, 1) else p2 (nextU u x.k)) := Lib.hid (by
  unfold applyU; rw [if_neg (by rw [hi]; decide), if_neg (fun h => h.elim h1 (fun h => h h2))])
 clear hi h1 h2
 have HB := Lib.hid hb
 have n1 : (x.car != 0) = false := by simpa using hc.1
 have n5 : (x.mode != 0) = false := by simpa using hc.2
 have e1 : decide (x.car = 0) = true := by simpa using hc.1
 have e2 : decide (x.mode = 0) = true := by simpa using hc.2
 have q1 : (x.car == 0) = true := by simpa using hc.1
 have q2 : (x.mode == 0) = true := by simpa using hc.2
 have HRES0 : Hid (applyU u x = if mayK u.c a0 x.k = true then p2 (nextU u x.k) else (zu, 1)) := Lib.hid (by rw [HSTP.out, if_neg (by rw [hb]; decide), if_neg (by rintro (h | h); exact h hc.1; exact h hc.2)]; simp only [hsk])
 clear hb hc HSTP
 have HSK := Lib.hid hsk; clear hsk
 go_enter Tryz.func39, Tryz.ntmps39
 go_upto_region 1 with fail
 obtain ⟨W, hW⟩ : ∃ W, ((w.alloc (.cells (u.cells sl sd) 65)).alloc (.cells x.cells 48)).alloc (.cells Z26 65) = W := ⟨_, rfl⟩
 rw [hW] at HT HA ⊢; clear hW
 generalize w.heap.size + 1 + 1 = q at HT ⊢
 generalize w.heap.size + 1 = s at HT ⊢
 obtain ⟨g, hg⟩ : ∃ g, w.heap.size = g := ⟨_, rfl⟩
 rw [hg] at HT ⊢; clear hg
 have k18 := UkAt.k18 HT.out.bk
 rw [HIS.out] at k18
 have k19 := UkAt.k19 HT.out.bk; have k0 := CgAt.k0 HT.out.cg
 go_upto_region 5 with fail
 clear k18 k19 k0 d1 n2 n3 n4 m2 m3
 have HKK := Lib.hid (CgAt.kk HT.out.cg)
 go_upto_region 8 with (first | ((with_reducible apply wpList_load_kpart (c := x.k) (h := HKK.out)); exact rfl; exact rfl; exact rfl) | ((with_reducible apply wpList_build_zk); exact rfl; exact rfl) | ((with_reducible apply wpList_eql_kat (c := x.k) (d := zk) (hb := HB.out)); exact rfl; exact rfl; exact rfl; exact rfl))
 clear HKK HB
 have k9 := CgAt.k9 HT.out.cg; have k10 := CgAt.k10 HT.out.cg
 go_upto_region 10 with fail
 clear k9 k10 n1 n5 e1 e2 q1 q2
 have HKK := Lib.hid (CgAt.kk HT.out.cg)
 go_upto_region 11 with (first | ((with_reducible apply wpList_load_kpart (c := x.k) (h := HKK.out)); exact rfl; exact rfl; exact rfl) | ((with_reducible apply wpList_store_knew (c := x.k)); exact rfl; exact rfl; exact rfl; exact rfl))
 have hbn := below_new W (.cells x.k.cells 46)
 have HT1 := Lib.hid (HT.out.step hbn); have HA1 := Lib.hid (HA.out.step hbn); have HK1 := Lib.hid (KAt.new W x.k)
 obtain ⟨W1, hW1⟩ : ∃ y, W.alloc (.cells x.k.cells 46) = y := ⟨_, rfl⟩
 rw [hW1] at HT1 HA1 HK1 ⊢; clear hW1 hbn HT HA HKK
 generalize W.heap.size = c9 at HK1 ⊢
 obtain ⟨n, hn⟩ : ∃ n, u.live.length = n := ⟨_, rfl⟩
 have HNN := Lib.hid hn
 have HLE : Hid (n ≤ 1000) := Lib.hid (by rw [← hn]; exact HOK.out.ll)
 clear hn
 go_wp2_with fail
 go_loopg [10] n (fun gh s10 wx => ∃ j : Nat, j ≤ n ∧ gh = n - j ∧ s10 = .int .i64 (j : Int) ∧ Below W1.heap.size W1 wx ∧ ∀ i, i < j → ∀ y, u.live[i]? = some y → y.id ≠ x.k.id)
 case atStart => exact ⟨0, Nat.zero_le _, rfl, rfl, Below.refl _ _, fun i hi => absurd hi (by omega)⟩
 case round =>
  obtain ⟨j, hj, hg, rfl, hbel, hno⟩ := hrel
  have HG := Lib.hid hg; have HNO := Lib.hid hno; have HBL := Lib.hid hbel; clear hg hno hbel
  have HT := Lib.hid (HT1.out.step HBL.out); have HA := Lib.hid (HA1.out.step HBL.out); have HK := Lib.hid (HK1.out.step HBL.out)
  have kl := UkAt.k20 HT.out.bk
  rw [HNN.out] at kl
  by_cases hlt : j < n
  ·have hj2 : j < u.live.length := by rw [HNN.out]; exact hlt
   have hrow := HA.out.1.1
   obtain ⟨b, off, hs, hb, hr⟩ := rd_cell hrow hj2
   have hpx : u.live[j]? = some u.live[j] := List.getElem?_eq_getElem hj2
   generalize u.live[j] = y at *
   obtain ⟨sl1, sl2⟩ := sl
   obtain rfl : sl1 = some ⟨b, off, none⟩ := hs
   have HPX := Lib.hid hpx; have HR := Lib.hid hr; have HLB := Lib.hid hb
   have KID := Lib.hid (kid_at hr)
   have HLG := Lib.hid (At.lt HT.out.bk)
   have kl2 : Hid (wr.cell? ⟨g, 20, none⟩ = some (.slice (some ⟨b, off, none⟩) n sl2)) := Lib.hid kl
   have b3 : (j : Int) < (n : Int) := by omega
   have b4 : (0 : Int) ≤ (j : Int) := by omega
   clear hr hpx hb hrow
   go_upto_region 14 with fail
   clear kl
   by_cases hid : y.id = x.k.id
   ·have NID : Hid ((y.id == x.k.id) = true) := Lib.hid (by simpa using hid)
    have hay : a0 = y := by
     have := seekK_hit HPX.out hid HNO.out
     rw [HSK.out] at this
     injection this
    subst hay
    have HID := Lib.hid hid; clear hid
    refine AnyOrder.region_kinds2 9 [.eq (ptr g 20), .eq (.slice (some ⟨b, off, none⟩) n sl2), .eq (.int .i64 (j : Int)), .eq (ptr b (off + j * 8)), .eq (ptr b (off + j * 8)), .eq (.int .i64 a0.id), .eq (ptr c9 0), .eq (.int .i64 x.k.id), .eq (.bool true)] (fun wx => Below wr.heap.size wr wx) (by kernel_rfl) (by kernel_rfl) rfl (by kernel_rfl) (below_drewN (Below.refl _ _) 1) (fun p _ _ hp => by simp at hp) ?_ ?_
    ·intro i o listed a1 w2 hin ho st hl hdep
     match i, ho with
     | 0, ho => (injection ho with ho; subst ho; have ec := AnyOrder.evc a1; have ef := AnyOrder.evf a1; have e0 : a1.eval (.tmp 2) = ptr g 0 := st.old hl 2 (by kernel_rfl); exact AnyOrder.sv rfl rfl (ptr g 20) (by generalize a1.eval = ρ at ec ef e0 ⊢; simp [execOp, ec, ef, e0, IntWalk.i64_left, go_sem]) st.inv (Below.refl _ _) rfl)
     | 1, ho => (injection ho with ho; subst ho; have ec := AnyOrder.evc a1; have ef := AnyOrder.evf a1; have e0 : a1.eval (.tmp 68) = ptr g 20 := st.done 0 68 (hdep ⟨0, .data⟩ (by simp) rfl) rfl; exact AnyOrder.sv rfl rfl (.slice (some ⟨b, off, none⟩) n sl2) (by have hk : w2.cell? ⟨g, 20, none⟩ = some (.slice (some ⟨b, off, none⟩) n sl2) := (st.inv.cell (p := ⟨g, 20, none⟩) HLG.out).trans kl2.out; generalize a1.eval = ρ at ec ef e0 ⊢; simp [execOp, e0, go_sem, hk]) st.inv (Below.refl _ _) rfl)
     | 2, ho => (injection ho with ho; subst ho; have e0 : a1.eval (.tmp 10) = .int .i64 (j : Int) := st.old hl 10 (by kernel_rfl); exact AnyOrder.sv rfl rfl (.int .i64 (j : Int)) (AnyOrder.run_move e0) st.inv (Below.refl _ _) rfl)
     | 3, ho => (injection ho with ho; subst ho; have ec := AnyOrder.evc a1; have ef := AnyOrder.evf a1; have e0 : a1.eval (.tmp 69) = .slice (some ⟨b, off, none⟩) n sl2 := st.done 1 69 (hdep ⟨1, .data⟩ (by simp) rfl) rfl; have e1 : a1.eval (.tmp 70) = .int .i64 (j : Int) := st.done 2 70 (hdep ⟨2, .data⟩ (by simp) rfl) rfl; exact AnyOrder.sv rfl rfl (ptr b (off + j * 8)) (by generalize a1.eval = ρ at ec ef e0 e1 ⊢; simp [execOp, e0, e1, go_sem, b3, b4]) st.inv (Below.refl _ _) rfl)
     | 4, ho => (injection ho with ho; subst ho; have ec := AnyOrder.evc a1; have ef := AnyOrder.evf a1; have e0 : a1.eval (.tmp 71) = ptr b (off + j * 8) := st.done 3 71 (hdep ⟨3, .data⟩ (by simp) rfl) rfl; exact AnyOrder.sv rfl rfl (ptr b (off + j * 8)) (by generalize a1.eval = ρ at ec ef e0 ⊢; simp [execOp, e0, go_sem]) st.inv (Below.refl _ _) rfl)
     | 5, ho => (injection ho with ho; subst ho; have ec := AnyOrder.evc a1; have ef := AnyOrder.evf a1; have e0 : a1.eval (.tmp 72) = ptr b (off + j * 8) := st.done 4 72 (hdep ⟨4, .data⟩ (by simp) rfl) rfl; exact AnyOrder.sv rfl rfl (.int .i64 a0.id) (by have hk := (st.inv.cell (p := ⟨b, off + j * 8, none⟩) HLB.out).trans KID.out; generalize a1.eval = ρ at ec ef e0 ⊢; simp [execOp, e0, go_sem, hk]) st.inv (Below.refl _ _) rfl)
     | 6, ho => (injection ho with ho; subst ho; have ec := AnyOrder.evc a1; have ef := AnyOrder.evf a1; have e0 : a1.eval (.tmp 9) = ptr c9 0 := st.old hl 9 (by kernel_rfl); exact AnyOrder.sv rfl rfl (ptr c9 0) (by generalize a1.eval = ρ at ec ef e0 ⊢; simp [execOp, ec, ef, e0, IntWalk.i64_left, go_sem]) st.inv (Below.refl _ _) rfl)
     | 7, ho => (injection ho with ho; subst ho; have ec := AnyOrder.evc a1; have ef := AnyOrder.evf a1; have e0 : a1.eval (.tmp 74) = ptr c9 0 := st.done 6 74 (hdep ⟨6, .data⟩ (by simp) rfl) rfl; exact AnyOrder.sv rfl rfl (.int .i64 x.k.id) (by have hk := KAt.get0 (At.step HK.out st.inv); generalize a1.eval = ρ at ec ef e0 ⊢; simp [execOp, e0, go_sem, hk]) st.inv (Below.refl _ _) rfl)
     | 8, ho => (injection ho with ho; subst ho; have ec := AnyOrder.evc a1; have ef := AnyOrder.evf a1; have e0 : a1.eval (.tmp 73) = .int .i64 a0.id := st.done 5 73 (hdep ⟨5, .data⟩ (by simp) rfl) rfl; have e1 : a1.eval (.tmp 75) = .int .i64 x.k.id := st.done 7 75 (hdep ⟨7, .data⟩ (by simp) rfl) rfl; exact AnyOrder.sv rfl rfl (.bool true) (by generalize a1.eval = ρ at ec ef e0 e1 ⊢; simp [execOp, e0, e1, go_sem, NID.out]) st.inv (Below.refl _ _) rfl)
     | n + 9, ho => exact absurd hin (by omega)
    ·intro w2 hJ
     simp only [AnyOrder.finK, List.take_succ_cons, List.take_zero, List.drop_succ_cons, List.drop_zero, Act.put, List.setIfInBounds_toArray, List.set_cons_zero, List.set_cons_succ]
     have HT2 := Lib.hid (HT.out.step hJ); have HA2 := Lib.hid (HA.out.step hJ); have HK2 := Lib.hid (HK.out.step hJ)
     have kl3 : Hid (w2.cell? ⟨g, 20, none⟩ = some (.slice (some ⟨b, off, none⟩) n sl2)) := Lib.hid ((hJ.cell (p := ⟨g, 20, none⟩) HLG.out).trans kl2.out)
     have HRY := Lib.hid (rng_below HR.out HLB.out hJ)
     have HLB2 : Hid (b < w2.heap.size) := Lib.hid (Nat.lt_of_lt_of_le HLB.out hJ.size)
     have HLG2 : Hid (g < w2.heap.size) := Lib.hid (Nat.lt_of_lt_of_le HLG.out hJ.size)
     have CM0 := fun W => rmay_any u.c a0 x.k W
     clear hJ
     cases hmy : mayK u.c a0 x.k
     ·rw [hmy] at CM0
      have CM := Lib.hid CM0; clear CM0
      have HRES : Hid (applyU u x = (zu, 1)) := Lib.hid (by rw [HRES0.out, if_neg (by rw [hmy]; decide)])
      clear hmy HRES0
      go_upto_region 15 with fail
      refine AnyOrder.region_kinds2 10 [.eq (ptr g 0), .eq (u.c.V), .eq (ptr g 20), .eq (.slice (some ⟨b, off, none⟩) n sl2), .eq (.int .i64 (j : Int)), .eq (ptr b (off + j * 8)), .eq (a0.V), .eq (x.k.V), .eq (.bool false), .eq (.bool true)] (fun wx => Below w2.heap.size w2 wx) (by kernel_rfl) (by kernel_rfl) rfl (by kernel_rfl) (below_drewN (Below.refl _ _) 1) (fun p _ _ hp => by simp at hp) ?_ ?_
      ·intro i o listed a1 w2 hin ho st hl hdep
       match i, ho with
       | 0, ho => (injection ho with ho; subst ho; have ec := AnyOrder.evc a1; have ef := AnyOrder.evf a1; have e0 : a1.eval (.tmp 2) = ptr g 0 := st.old hl 2 (by kernel_rfl); exact AnyOrder.sv rfl rfl (ptr g 0) (by generalize a1.eval = ρ at ec ef e0 ⊢; simp [execOp, ec, ef, e0, IntWalk.i64_left, go_sem]) st.inv (Below.refl _ _) rfl)
       | 1, ho => (injection ho with ho; subst ho; have e0 : a1.eval (.tmp 77) = ptr g 0 := st.done 0 77 (hdep ⟨0, .data⟩ (by simp) rfl) rfl; exact AnyOrder.sv rfl rfl (u.c.V) (run_load_cp e0 (UkAt.kc (At.step HT2.out.bk st.inv))) st.inv (Below.refl _ _) rfl)
       | 2, ho => (injection ho with ho; subst ho; have ec := AnyOrder.evc a1; have ef := AnyOrder.evf a1; have e0 : a1.eval (.tmp 2) = ptr g 0 := st.old hl 2 (by kernel_rfl); exact AnyOrder.sv rfl rfl (ptr g 20) (by generalize a1.eval = ρ at ec ef e0 ⊢; simp [execOp, ec, ef, e0, IntWalk.i64_left, go_sem]) st.inv (Below.refl _ _) rfl)
       | 3, ho => (injection ho with ho; subst ho; have ec := AnyOrder.evc a1; have ef := AnyOrder.evf a1; have e0 : a1.eval (.tmp 79) = ptr g 20 := st.done 2 79 (hdep ⟨2, .data⟩ (by simp) rfl) rfl; exact AnyOrder.sv rfl rfl (.slice (some ⟨b, off, none⟩) n sl2) (by have hk : w2.cell? ⟨g, 20, none⟩ = some (.slice (some ⟨b, off, none⟩) n sl2) := (st.inv.cell (p := ⟨g, 20, none⟩) HLG2.out).trans kl3.out; generalize a1.eval = ρ at ec ef e0 ⊢; simp [execOp, e0, go_sem, hk]) st.inv (Below.refl _ _) rfl)
       | 4, ho => (injection ho with ho; subst ho; have e0 : a1.eval (.tmp 10) = .int .i64 (j : Int) := st.old hl 10 (by kernel_rfl); exact AnyOrder.sv rfl rfl (.int .i64 (j : Int)) (AnyOrder.run_move e0) st.inv (Below.refl _ _) rfl)
       | 5, ho => (injection ho with ho; subst ho; have ec := AnyOrder.evc a1; have ef := AnyOrder.evf a1; have e0 : a1.eval (.tmp 80) = .slice (some ⟨b, off, none⟩) n sl2 := st.done 3 80 (hdep ⟨3, .data⟩ (by simp) rfl) rfl; have e1 : a1.eval (.tmp 81) = .int .i64 (j : Int) := st.done 4 81 (hdep ⟨4, .data⟩ (by simp) rfl) rfl; exact AnyOrder.sv rfl rfl (ptr b (off + j * 8)) (by generalize a1.eval = ρ at ec ef e0 e1 ⊢; simp [execOp, e0, e1, go_sem, b3, b4]) st.inv (Below.refl _ _) rfl)
       | 6, ho => (injection ho with ho; subst ho; have e0 : a1.eval (.tmp 82) = ptr b (off + j * 8) := st.done 5 82 (hdep ⟨5, .data⟩ (by simp) rfl) rfl; exact AnyOrder.sv rfl rfl (a0.V) (run_load_kp e0 (rng_below HRY.out HLB2.out st.inv)) st.inv (Below.refl _ _) rfl)
       | 7, ho => (injection ho with ho; subst ho; have e0 : a1.eval (.tmp 9) = ptr c9 0 := st.old hl 9 (by kernel_rfl); exact AnyOrder.sv rfl rfl (x.k.V) (run_load_k e0 (At.step HK2.out st.inv)) st.inv (Below.refl _ _) rfl)
       | 8, ho => (injection ho with ho; subst ho; have ec := AnyOrder.evc a1; have ef := AnyOrder.evf a1; have e0 : a1.eval (.tmp 78) = u.c.V := st.done 1 78 (hdep ⟨1, .data⟩ (by simp) rfl) rfl; have e1 : a1.eval (.tmp 83) = a0.V := st.done 6 83 (hdep ⟨6, .data⟩ (by simp) rfl) rfl; have e2 : a1.eval (.tmp 84) = x.k.V := st.done 7 84 (hdep ⟨7, .data⟩ (by simp) rfl) rfl; exact AnyOrder.step_call rfl (AnyOrder.wanted_none rfl) 57 #[u.c.V, a0.V, x.k.V] (by generalize a1.eval = ρ at ec ef e0 e1 e2 ⊢; simp [execOp, ec, ef, e0, e1, e2, go_sem]) ((CM.out _).mono (fun e w3 h => by obtain ⟨rfl, hb⟩ := h; exact ⟨_, rfl, st.inv.trans (hb.mono st.inv.size), hb, rfl⟩)))
       | 9, ho => (injection ho with ho; subst ho; have ec := AnyOrder.evc a1; have ef := AnyOrder.evf a1; have e0 : a1.eval (.tmp 85) = .bool false := st.done 8 85 (hdep ⟨8, .data⟩ (by simp) rfl) rfl; exact AnyOrder.sv rfl rfl (.bool true) (by generalize a1.eval = ρ at ec ef e0 ⊢; simp [execOp, ec, ef, e0, IntWalk.i64_left, go_sem]) st.inv (Below.refl _ _) rfl)
       | n + 10, ho => exact absurd hin (by omega)
      ·intro w3 hJ3
       simp only [AnyOrder.finK, List.take_succ_cons, List.take_zero, List.drop_succ_cons, List.drop_zero, Act.put, List.setIfInBounds_toArray, List.set_cons_zero, List.set_cons_succ]
       have HT3 := Lib.hid (HT2.out.step hJ3)
       have HQ := Lib.hid HT3.out.ans
       have HF := Lib.hid (HT3.out.good (UAt.zero _) 1)
       go_wp2_with (first | ((with_reducible apply wpList_build_zu); exact rfl; exact rfl) | ((with_reducible apply wpList_store_uk (b := zu) (s := s0) (t := s0) (hq := HQ.out)); exact rfl; exact rfl; exact rfl; exact rfl))
       exact bodyPost_ret (results_u2 Tryz.results39 rfl rfl HF.out.1) rfl (by rw [HRES.out]; exact HF.out.2)
     ·rw [hmy] at CM0
      have CM := Lib.hid CM0; clear CM0
      have HRES0b : Hid (applyU u x = p2 (nextU u x.k)) := Lib.hid (by rw [HRES0.out, if_pos hmy])
      clear hmy HRES0
      go_upto_region 15 with fail
      refine AnyOrder.region_kinds2 10 [.eq (ptr g 0), .eq (u.c.V), .eq (ptr g 20), .eq (.slice (some ⟨b, off, none⟩) n sl2), .eq (.int .i64 (j : Int)), .eq (ptr b (off + j * 8)), .eq (a0.V), .eq (x.k.V), .eq (.bool true), .eq (.bool false)] (fun wx => Below w2.heap.size w2 wx) (by kernel_rfl) (by kernel_rfl) rfl (by kernel_rfl) (below_drewN (Below.refl _ _) 1) (fun p _ _ hp => by simp at hp) ?_ ?_
      ·intro i o listed a1 w2 hin ho st hl hdep
       match i, ho with
       | 0, ho => (injection ho with ho; subst ho; have ec := AnyOrder.evc a1; have ef := AnyOrder.evf a1; have e0 : a1.eval (.tmp 2) = ptr g 0 := st.old hl 2 (by kernel_rfl); exact AnyOrder.sv rfl rfl (ptr g 0) (by generalize a1.eval = ρ at ec ef e0 ⊢; simp [execOp, ec, ef, e0, IntWalk.i64_left, go_sem]) st.inv (Below.refl _ _) rfl)
       | 1, ho => (injection ho with ho; subst ho; have e0 : a1.eval (.tmp 77) = ptr g 0 := st.done 0 77 (hdep ⟨0, .data⟩ (by simp) rfl) rfl; exact AnyOrder.sv rfl rfl (u.c.V) (run_load_cp e0 (UkAt.kc (At.step HT2.out.bk st.inv))) st.inv (Below.refl _ _) rfl)
       | 2, ho => (injection ho with ho; subst ho; have ec := AnyOrder.evc a1; have ef := AnyOrder.evf a1; have e0 : a1.eval (.tmp 2) = ptr g 0 := st.old hl 2 (by kernel_rfl); exact AnyOrder.sv rfl rfl (ptr g 20) (by generalize a1.eval = ρ at ec ef e0 ⊢; simp [execOp, ec, ef, e0, IntWalk.i64_left, go_sem]) st.inv (Below.refl _ _) rfl)
       | 3, ho => (injection ho with ho; subst ho; have ec := AnyOrder.evc a1; have ef := AnyOrder.evf a1; have e0 : a1.eval (.tmp 79) = ptr g 20 := st.done 2 79 (hdep ⟨2, .data⟩ (by simp) rfl) rfl; exact AnyOrder.sv rfl rfl (.slice (some ⟨b, off, none⟩) n sl2) (by have hk : w2.cell? ⟨g, 20, none⟩ = some (.slice (some ⟨b, off, none⟩) n sl2) := (st.inv.cell (p := ⟨g, 20, none⟩) HLG2.out).trans kl3.out; generalize a1.eval = ρ at ec ef e0 ⊢; simp [execOp, e0, go_sem, hk]) st.inv (Below.refl _ _) rfl)
       | 4, ho => (injection ho with ho; subst ho; have e0 : a1.eval (.tmp 10) = .int .i64 (j : Int) := st.old hl 10 (by kernel_rfl); exact AnyOrder.sv rfl rfl (.int .i64 (j : Int)) (AnyOrder.run_move e0) st.inv (Below.refl _ _) rfl)
       | 5, ho => (injection ho with ho; subst ho; have ec := AnyOrder.evc a1; have ef := AnyOrder.evf a1; have e0 : a1.eval (.tmp 80) = .slice (some ⟨b, off, none⟩) n sl2 := st.done 3 80 (hdep ⟨3, .data⟩ (by simp) rfl) rfl; have e1 : a1.eval (.tmp 81) = .int .i64 (j : Int) := st.done 4 81 (hdep ⟨4, .data⟩ (by simp) rfl) rfl; exact AnyOrder.sv rfl rfl (ptr b (off + j * 8)) (by generalize a1.eval = ρ at ec ef e0 e1 ⊢; simp [execOp, e0, e1, go_sem, b3, b4]) st.inv (Below.refl _ _) rfl)
       | 6, ho => (injection ho with ho; subst ho; have e0 : a1.eval (.tmp 82) = ptr b (off + j * 8) := st.done 5 82 (hdep ⟨5, .data⟩ (by simp) rfl) rfl; exact AnyOrder.sv rfl rfl (a0.V) (run_load_kp e0 (rng_below HRY.out HLB2.out st.inv)) st.inv (Below.refl _ _) rfl)
       | 7, ho => (injection ho with ho; subst ho; have e0 : a1.eval (.tmp 9) = ptr c9 0 := st.old hl 9 (by kernel_rfl); exact AnyOrder.sv rfl rfl (x.k.V) (run_load_k e0 (At.step HK2.out st.inv)) st.inv (Below.refl _ _) rfl)
       | 8, ho => (injection ho with ho; subst ho; have ec := AnyOrder.evc a1; have ef := AnyOrder.evf a1; have e0 : a1.eval (.tmp 78) = u.c.V := st.done 1 78 (hdep ⟨1, .data⟩ (by simp) rfl) rfl; have e1 : a1.eval (.tmp 83) = a0.V := st.done 6 83 (hdep ⟨6, .data⟩ (by simp) rfl) rfl; have e2 : a1.eval (.tmp 84) = x.k.V := st.done 7 84 (hdep ⟨7, .data⟩ (by simp) rfl) rfl; exact AnyOrder.step_call rfl (AnyOrder.wanted_none rfl) 57 #[u.c.V, a0.V, x.k.V] (by generalize a1.eval = ρ at ec ef e0 e1 e2 ⊢; simp [execOp, ec, ef, e0, e1, e2, go_sem]) ((CM.out _).mono (fun e w3 h => by obtain ⟨rfl, hb⟩ := h; exact ⟨_, rfl, st.inv.trans (hb.mono st.inv.size), hb, rfl⟩)))
       | 9, ho => (injection ho with ho; subst ho; have ec := AnyOrder.evc a1; have ef := AnyOrder.evf a1; have e0 : a1.eval (.tmp 85) = .bool true := st.done 8 85 (hdep ⟨8, .data⟩ (by simp) rfl) rfl; exact AnyOrder.sv rfl rfl (.bool false) (by generalize a1.eval = ρ at ec ef e0 ⊢; simp [execOp, ec, ef, e0, IntWalk.i64_left, go_sem]) st.inv (Below.refl _ _) rfl)
       | n + 10, ho => exact absurd hin (by omega)
      ·intro w3 hJ3
       simp only [AnyOrder.finK, List.take_succ_cons, List.take_zero, List.drop_succ_cons, List.drop_zero, Act.put, List.setIfInBounds_toArray, List.set_cons_zero, List.set_cons_succ]
       have HT3 := Lib.hid (HT2.out.step hJ3); have HA3 := Lib.hid (HA2.out.step hJ3); have HK3 := Lib.hid (HK2.out.step hJ3)
       have CN := Lib.hid (HOK.out.next HOC.out HA3.out x.k)
       obtain ⟨res, hres⟩ : ∃ r, nextU u x.k = r := ⟨_, rfl⟩
       rw [hres] at CN HRES0b; clear hres
       obtain ⟨rb, rc, rn⟩ := res
       have HRES : Hid (applyU u x = (rb, rn)) := Lib.hid HRES0b.out
       clear HRES0b HT2 HA2 HK2 hJ3 kl3 HRY
       have HU := Lib.hid HT3.out.bk; have HK := HK3
       go_wp2_with (first | ((with_reducible apply wpList_load_uk (h := HU.out)); exact rfl; exact rfl; exact rfl) | ((with_reducible apply wpList_load_kat (h := HK.out)); exact rfl; exact rfl; exact rfl))
       with_reducible refine CN.out.mono ?_
       rintro e w5 ⟨o5, p5, rfl, ha5, hb5⟩
       clear HU CN
       have HT7 := Lib.hid (HT3.out.step hb5); have HA7 := Lib.hid ha5; clear HT3 hb5 ha5
       have hm := made2U w5 rb o5 p5 rc
       have HM1 := Lib.hid hm.1; have HM2 := Lib.hid hm.2.1; have HQ6 := Lib.hid hm.2.2.1; have HQ7 := Lib.hid hm.2.2.2; clear hm
       go_upto_region 18 with (first | ((with_reducible apply wpList_store_uk (b := rb) (s := o5) (t := p5) (hq := HQ6.out)); exact rfl; exact rfl; exact rfl; exact rfl) | ((with_reducible apply wpList_store_cg (c := rc) (hq := HQ7.out)); exact rfl; exact rfl; exact rfl; exact rfl))
       have HT8 := Lib.hid (HT7.out.step HM1.out); have HA8 := Lib.hid (HA7.out.step HM1.out); clear HT7 HA7 HQ6 HQ7 HM1
       obtain ⟨w8, hw8⟩ : ∃ y, (((w5.alloc (.cells Z26 65)).alloc (.cells Z11 48)).setRow w5.heap.size (rb.cells o5 p5)).setRow (w5.heap.size + 1) rc.cells = y := ⟨_, rfl⟩
       rw [hw8] at HT8 HA8 HM2 ⊢; clear hw8
       generalize w5.heap.size = p6 at HM2 ⊢
       have HQ := Lib.hid HT8.out.ans
       have HF := Lib.hid (HT8.out.good HA8.out rn)
       go_wp2_with (first | ((with_reducible apply wpList_load_uk (h := HM2.out)); exact rfl; exact rfl; exact rfl) | ((with_reducible apply wpList_store_uk (b := rb) (s := o5) (t := p5) (hq := HQ.out)); exact rfl; exact rfl; exact rfl; exact rfl))
       exact bodyPost_ret (results_u2 Tryz.results39 rfl rfl HF.out.1) rfl (by rw [HRES.out]; exact HF.out.2)
   ·have NID : Hid ((y.id == x.k.id) = false) := Lib.hid (by simpa using hid)
    have HID := Lib.hid hid; clear hid
    refine AnyOrder.region_kinds2 9 [.eq (ptr g 20), .eq (.slice (some ⟨b, off, none⟩) n sl2), .eq (.int .i64 (j : Int)), .eq (ptr b (off + j * 8)), .eq (ptr b (off + j * 8)), .eq (.int .i64 y.id), .eq (ptr c9 0), .eq (.int .i64 x.k.id), .eq (.bool false)] (fun wx => Below wr.heap.size wr wx) (by kernel_rfl) (by kernel_rfl) rfl (by kernel_rfl) (below_drewN (Below.refl _ _) 1) (fun p _ _ hp => by simp at hp) ?_ ?_
    ·intro i o listed a1 w2 hin ho st hl hdep
     match i, ho with
     | 0, ho => (injection ho with ho; subst ho; have ec := AnyOrder.evc a1; have ef := AnyOrder.evf a1; have e0 : a1.eval (.tmp 2) = ptr g 0 := st.old hl 2 (by kernel_rfl); exact AnyOrder.sv rfl rfl (ptr g 20) (by generalize a1.eval = ρ at ec ef e0 ⊢; simp [execOp, ec, ef, e0, IntWalk.i64_left, go_sem]) st.inv (Below.refl _ _) rfl)
     | 1, ho => (injection ho with ho; subst ho; have ec := AnyOrder.evc a1; have ef := AnyOrder.evf a1; have e0 : a1.eval (.tmp 68) = ptr g 20 := st.done 0 68 (hdep ⟨0, .data⟩ (by simp) rfl) rfl; exact AnyOrder.sv rfl rfl (.slice (some ⟨b, off, none⟩) n sl2) (by have hk : w2.cell? ⟨g, 20, none⟩ = some (.slice (some ⟨b, off, none⟩) n sl2) := (st.inv.cell (p := ⟨g, 20, none⟩) HLG.out).trans kl2.out; generalize a1.eval = ρ at ec ef e0 ⊢; simp [execOp, e0, go_sem, hk]) st.inv (Below.refl _ _) rfl)
     | 2, ho => (injection ho with ho; subst ho; have e0 : a1.eval (.tmp 10) = .int .i64 (j : Int) := st.old hl 10 (by kernel_rfl); exact AnyOrder.sv rfl rfl (.int .i64 (j : Int)) (AnyOrder.run_move e0) st.inv (Below.refl _ _) rfl)
     | 3, ho => (injection ho with ho; subst ho; have ec := AnyOrder.evc a1; have ef := AnyOrder.evf a1; have e0 : a1.eval (.tmp 69) = .slice (some ⟨b, off, none⟩) n sl2 := st.done 1 69 (hdep ⟨1, .data⟩ (by simp) rfl) rfl; have e1 : a1.eval (.tmp 70) = .int .i64 (j : Int) := st.done 2 70 (hdep ⟨2, .data⟩ (by simp) rfl) rfl; exact AnyOrder.sv rfl rfl (ptr b (off + j * 8)) (by generalize a1.eval = ρ at ec ef e0 e1 ⊢; simp [execOp, e0, e1, go_sem, b3, b4]) st.inv (Below.refl _ _) rfl)
     | 4, ho => (injection ho with ho; subst ho; have ec := AnyOrder.evc a1; have ef := AnyOrder.evf a1; have e0 : a1.eval (.tmp 71) = ptr b (off + j * 8) := st.done 3 71 (hdep ⟨3, .data⟩ (by simp) rfl) rfl; exact AnyOrder.sv rfl rfl (ptr b (off + j * 8)) (by generalize a1.eval = ρ at ec ef e0 ⊢; simp [execOp, e0, go_sem]) st.inv (Below.refl _ _) rfl)
     | 5, ho => (injection ho with ho; subst ho; have ec := AnyOrder.evc a1; have ef := AnyOrder.evf a1; have e0 : a1.eval (.tmp 72) = ptr b (off + j * 8) := st.done 4 72 (hdep ⟨4, .data⟩ (by simp) rfl) rfl; exact AnyOrder.sv rfl rfl (.int .i64 y.id) (by have hk := (st.inv.cell (p := ⟨b, off + j * 8, none⟩) HLB.out).trans KID.out; generalize a1.eval = ρ at ec ef e0 ⊢; simp [execOp, e0, go_sem, hk]) st.inv (Below.refl _ _) rfl)
     | 6, ho => (injection ho with ho; subst ho; have ec := AnyOrder.evc a1; have ef := AnyOrder.evf a1; have e0 : a1.eval (.tmp 9) = ptr c9 0 := st.old hl 9 (by kernel_rfl); exact AnyOrder.sv rfl rfl (ptr c9 0) (by generalize a1.eval = ρ at ec ef e0 ⊢; simp [execOp, ec, ef, e0, IntWalk.i64_left, go_sem]) st.inv (Below.refl _ _) rfl)
     | 7, ho => (injection ho with ho; subst ho; have ec := AnyOrder.evc a1; have ef := AnyOrder.evf a1; have e0 : a1.eval (.tmp 74) = ptr c9 0 := st.done 6 74 (hdep ⟨6, .data⟩ (by simp) rfl) rfl; exact AnyOrder.sv rfl rfl (.int .i64 x.k.id) (by have hk := KAt.get0 (At.step HK.out st.inv); generalize a1.eval = ρ at ec ef e0 ⊢; simp [execOp, e0, go_sem, hk]) st.inv (Below.refl _ _) rfl)
     | 8, ho => (injection ho with ho; subst ho; have ec := AnyOrder.evc a1; have ef := AnyOrder.evf a1; have e0 : a1.eval (.tmp 73) = .int .i64 y.id := st.done 5 73 (hdep ⟨5, .data⟩ (by simp) rfl) rfl; have e1 : a1.eval (.tmp 75) = .int .i64 x.k.id := st.done 7 75 (hdep ⟨7, .data⟩ (by simp) rfl) rfl; exact AnyOrder.sv rfl rfl (.bool false) (by generalize a1.eval = ρ at ec ef e0 e1 ⊢; simp [execOp, e0, e1, go_sem, NID.out]) st.inv (Below.refl _ _) rfl)
     | n + 9, ho => exact absurd hin (by omega)
    ·intro w2 hJ
     simp only [AnyOrder.finK, List.take_succ_cons, List.take_zero, List.drop_succ_cons, List.drop_zero, Act.put, List.setIfInBounds_toArray, List.set_cons_zero, List.set_cons_succ]
     have HBL2 := Lib.hid (HBL.out.trans (hJ.mono HBL.out.size))
     go_wp2_with fail
     go_roundg (n - (j + 1))
     case measure => have := HG.out; omega
     case rel => exact ⟨j + 1, by omega, rfl, (by have := HLE.out; rw [IntWalk.wrap64_in _ (by omega)]; rfl), HBL2.out, fun i hi y hy => by
      by_cases hij : i < j
      ·exact HNO.out i hij y hy
      ·obtain rfl : i = j := by omega
       rw [HPX.out] at hy
       injection hy with hy
       subst hy
       exact HID.out⟩
  ·obtain rfl : j = n := by omega
   have hnn : seekK x.k.id u.live = none := seekK_none (fun i y hy => HNO.out i (by have := (List.getElem?_eq_some_iff.1 hy).1; have := HNN.out; omega) y hy)
   have := HSK.out
   rw [hnn] at this
   cases this
set_option maxRecDepth 100000 in
set_option maxHeartbeats 4000000 in
theorem applyU_placed {u : U} {sl sd : Sl} {x : Cg} {w : World} (ha : UAt w u sl sd) (hok : u.Ok) (hi : u.is = true) (h1 : ¬ x.ix < 1) (h2 : wrap64 (x.ix - 1) = u.ix) (hb : x.k.beq zk = false) (hc : x.car = 0 ∧ x.mode = 0) (hsk : seekK x.k.id u.live = none) : Calls Tryz.prog 39 #[u.V sl sd, x.V] w (U2 w (applyU u x)) := by
 have HT := Lib.hid (AU.new w u sl sd x _ rfl)
 have HA := Lib.hid (ha.step HT.out.bel)
 have HOK := Lib.hid hok; clear hok ha
 have HIS := Lib.hid hi; have HOC := Lib.hid (HOK.out.okc hi)
 have d1 : decide (x.ix < 1) = false := by simpa using h1
 have n2 : (wrap64 (x.ix - 1) != u.ix) = false := by simpa using h2
 have n3 : decide (wrap64 (x.ix - 1) = u.ix) = true := by simpa using h2
 have n4 : (wrap64 (x.ix - 1) == u.ix) = true := by simpa using h2
 have m2 : (IntKind.i64.wrap (x.ix - 1) != u.ix) = false := by rw [IntWalk.i64_left]; exact n2
 have m3 : decide (IntKind.i64.wrap (x.ix - 1) = u.ix) = true := by rw [IntWalk.i64_left]; exact n3
 have HSTP : Hid (applyU u x = if x.k.beq zk = true then p2 (setU u x.car x.mode) else if x.car ≠ 0 ∨ x.mode ≠ 0 then (zu, 1) else match seekK x.k.id u.live with
   | some a => if mayK u.c a x.k = true then p2 (nextU u x.k) else (zu, 1)
   | none => if badP u x = true then (zu, 1) else p2 (nextU u x.k)) := Lib.hid (by
  unfold applyU; rw [if_neg (by rw [hi]; decide), if_neg (fun h => h.elim h1 (fun h => h h2))])
 clear hi h1 h2
 have HB := Lib.hid hb
 have n1 : (x.car != 0) = false := by simpa using hc.1
 have n5 : (x.mode != 0) = false := by simpa using hc.2
 have e1 : decide (x.car = 0) = true := by simpa using hc.1
 have e2 : decide (x.mode = 0) = true := by simpa using hc.2
 have q1 : (x.car == 0) = true := by simpa using hc.1
 have q2 : (x.mode == 0) = true := by simpa using hc.2
 have HRES0 : Hid (applyU u x = if badP u x = true then (zu, 1) else p2 (nextU u x.k)) := Lib.hid (by rw [HSTP.out, if_neg (by rw [hb]; decide), if_neg (by rintro (h | h); exact h hc.1; exact h hc.2)]; simp only [hsk])
 clear hb hc HSTP
 have HSK := Lib.hid hsk; clear hsk
 go_enter Tryz.func39, Tryz.ntmps39
 go_upto_region 1 with fail
 obtain ⟨W, hW⟩ : ∃ W, ((w.alloc (.cells (u.cells sl sd) 65)).alloc (.cells x.cells 48)).alloc (.cells Z26 65) = W := ⟨_, rfl⟩
 rw [hW] at HT HA ⊢; clear hW
 generalize w.heap.size + 1 + 1 = q at HT ⊢
 generalize w.heap.size + 1 = s at HT ⊢
 obtain ⟨g, hg⟩ : ∃ g, w.heap.size = g := ⟨_, rfl⟩
 rw [hg] at HT ⊢; clear hg
 have k18 := UkAt.k18 HT.out.bk
 rw [HIS.out] at k18
 have k19 := UkAt.k19 HT.out.bk; have k0 := CgAt.k0 HT.out.cg
 go_upto_region 5 with fail
 clear k18 k19 k0 d1 n2 n3 n4 m2 m3
 have HKK := Lib.hid (CgAt.kk HT.out.cg)
 go_upto_region 8 with (first | ((with_reducible apply wpList_load_kpart (c := x.k) (h := HKK.out)); exact rfl; exact rfl; exact rfl) | ((with_reducible apply wpList_build_zk); exact rfl; exact rfl) | ((with_reducible apply wpList_eql_kat (c := x.k) (d := zk) (hb := HB.out)); exact rfl; exact rfl; exact rfl; exact rfl))
 clear HKK HB
 have k9 := CgAt.k9 HT.out.cg; have k10 := CgAt.k10 HT.out.cg
 go_upto_region 10 with fail
 clear k9 k10 n1 n5 e1 e2 q1 q2
 have HKK := Lib.hid (CgAt.kk HT.out.cg)
 go_upto_region 11 with (first | ((with_reducible apply wpList_load_kpart (c := x.k) (h := HKK.out)); exact rfl; exact rfl; exact rfl) | ((with_reducible apply wpList_store_knew (c := x.k)); exact rfl; exact rfl; exact rfl; exact rfl))
 have hbn := below_new W (.cells x.k.cells 46)
 have HT1 := Lib.hid (HT.out.step hbn); have HA1 := Lib.hid (HA.out.step hbn); have HK1 := Lib.hid (KAt.new W x.k)
 obtain ⟨W1, hW1⟩ : ∃ y, W.alloc (.cells x.k.cells 46) = y := ⟨_, rfl⟩
 rw [hW1] at HT1 HA1 HK1 ⊢; clear hW1 hbn HT HA HKK
 generalize W.heap.size = c9 at HK1 ⊢
 obtain ⟨n, hn⟩ : ∃ n, u.live.length = n := ⟨_, rfl⟩
 have HNN := Lib.hid hn
 have HLE : Hid (n ≤ 1000) := Lib.hid (by rw [← hn]; exact HOK.out.ll)
 clear hn
 go_wp2_with fail
 go_loopg [10] n (fun gh s10 wx => ∃ j : Nat, j ≤ n ∧ gh = n - j ∧ s10 = .int .i64 (j : Int) ∧ Below W1.heap.size W1 wx ∧ ∀ i, i < j → ∀ y, u.live[i]? = some y → y.id ≠ x.k.id)
 case atStart => exact ⟨0, Nat.zero_le _, rfl, rfl, Below.refl _ _, fun i hi => absurd hi (by omega)⟩
 case round =>
  obtain ⟨j, hj, hg, rfl, hbel, hno⟩ := hrel
  have HG := Lib.hid hg; have HNO := Lib.hid hno; have HBL := Lib.hid hbel; clear hg hno hbel
  have HT := Lib.hid (HT1.out.step HBL.out); have HA := Lib.hid (HA1.out.step HBL.out); have HK := Lib.hid (HK1.out.step HBL.out)
  have kl := UkAt.k20 HT.out.bk
  rw [HNN.out] at kl
  by_cases hlt : j < n
  ·have hj2 : j < u.live.length := by rw [HNN.out]; exact hlt
   have hrow := HA.out.1.1
   obtain ⟨b, off, hs, hb, hr⟩ := rd_cell hrow hj2
   have hpx : u.live[j]? = some u.live[j] := List.getElem?_eq_getElem hj2
   generalize u.live[j] = y at *
   obtain ⟨sl1, sl2⟩ := sl
   obtain rfl : sl1 = some ⟨b, off, none⟩ := hs
   have HPX := Lib.hid hpx; have HR := Lib.hid hr; have HLB := Lib.hid hb
   have KID := Lib.hid (kid_at hr)
   have HLG := Lib.hid (At.lt HT.out.bk)
   have kl2 : Hid (wr.cell? ⟨g, 20, none⟩ = some (.slice (some ⟨b, off, none⟩) n sl2)) := Lib.hid kl
   have b3 : (j : Int) < (n : Int) := by omega
   have b4 : (0 : Int) ≤ (j : Int) := by omega
   clear hr hpx hb hrow
   go_upto_region 14 with fail
   clear kl
   by_cases hid : y.id = x.k.id
   ·have := seekK_hit HPX.out hid HNO.out
    rw [HSK.out] at this
    cases this
   ·have NID : Hid ((y.id == x.k.id) = false) := Lib.hid (by simpa using hid)
    have HID := Lib.hid hid; clear hid
    refine AnyOrder.region_kinds2 9 [.eq (ptr g 20), .eq (.slice (some ⟨b, off, none⟩) n sl2), .eq (.int .i64 (j : Int)), .eq (ptr b (off + j * 8)), .eq (ptr b (off + j * 8)), .eq (.int .i64 y.id), .eq (ptr c9 0), .eq (.int .i64 x.k.id), .eq (.bool false)] (fun wx => Below wr.heap.size wr wx) (by kernel_rfl) (by kernel_rfl) rfl (by kernel_rfl) (below_drewN (Below.refl _ _) 1) (fun p _ _ hp => by simp at hp) ?_ ?_
    ·intro i o listed a1 w2 hin ho st hl hdep
     match i, ho with
     | 0, ho => (injection ho with ho; subst ho; have ec := AnyOrder.evc a1; have ef := AnyOrder.evf a1; have e0 : a1.eval (.tmp 2) = ptr g 0 := st.old hl 2 (by kernel_rfl); exact AnyOrder.sv rfl rfl (ptr g 20) (by generalize a1.eval = ρ at ec ef e0 ⊢; simp [execOp, ec, ef, e0, IntWalk.i64_left, go_sem]) st.inv (Below.refl _ _) rfl)
     | 1, ho => (injection ho with ho; subst ho; have ec := AnyOrder.evc a1; have ef := AnyOrder.evf a1; have e0 : a1.eval (.tmp 68) = ptr g 20 := st.done 0 68 (hdep ⟨0, .data⟩ (by simp) rfl) rfl; exact AnyOrder.sv rfl rfl (.slice (some ⟨b, off, none⟩) n sl2) (by have hk : w2.cell? ⟨g, 20, none⟩ = some (.slice (some ⟨b, off, none⟩) n sl2) := (st.inv.cell (p := ⟨g, 20, none⟩) HLG.out).trans kl2.out; generalize a1.eval = ρ at ec ef e0 ⊢; simp [execOp, e0, go_sem, hk]) st.inv (Below.refl _ _) rfl)
     | 2, ho => (injection ho with ho; subst ho; have e0 : a1.eval (.tmp 10) = .int .i64 (j : Int) := st.old hl 10 (by kernel_rfl); exact AnyOrder.sv rfl rfl (.int .i64 (j : Int)) (AnyOrder.run_move e0) st.inv (Below.refl _ _) rfl)
     | 3, ho => (injection ho with ho; subst ho; have ec := AnyOrder.evc a1; have ef := AnyOrder.evf a1; have e0 : a1.eval (.tmp 69) = .slice (some ⟨b, off, none⟩) n sl2 := st.done 1 69 (hdep ⟨1, .data⟩ (by simp) rfl) rfl; have e1 : a1.eval (.tmp 70) = .int .i64 (j : Int) := st.done 2 70 (hdep ⟨2, .data⟩ (by simp) rfl) rfl; exact AnyOrder.sv rfl rfl (ptr b (off + j * 8)) (by generalize a1.eval = ρ at ec ef e0 e1 ⊢; simp [execOp, e0, e1, go_sem, b3, b4]) st.inv (Below.refl _ _) rfl)
     | 4, ho => (injection ho with ho; subst ho; have ec := AnyOrder.evc a1; have ef := AnyOrder.evf a1; have e0 : a1.eval (.tmp 71) = ptr b (off + j * 8) := st.done 3 71 (hdep ⟨3, .data⟩ (by simp) rfl) rfl; exact AnyOrder.sv rfl rfl (ptr b (off + j * 8)) (by generalize a1.eval = ρ at ec ef e0 ⊢; simp [execOp, e0, go_sem]) st.inv (Below.refl _ _) rfl)
     | 5, ho => (injection ho with ho; subst ho; have ec := AnyOrder.evc a1; have ef := AnyOrder.evf a1; have e0 : a1.eval (.tmp 72) = ptr b (off + j * 8) := st.done 4 72 (hdep ⟨4, .data⟩ (by simp) rfl) rfl; exact AnyOrder.sv rfl rfl (.int .i64 y.id) (by have hk := (st.inv.cell (p := ⟨b, off + j * 8, none⟩) HLB.out).trans KID.out; generalize a1.eval = ρ at ec ef e0 ⊢; simp [execOp, e0, go_sem, hk]) st.inv (Below.refl _ _) rfl)
     | 6, ho => (injection ho with ho; subst ho; have ec := AnyOrder.evc a1; have ef := AnyOrder.evf a1; have e0 : a1.eval (.tmp 9) = ptr c9 0 := st.old hl 9 (by kernel_rfl); exact AnyOrder.sv rfl rfl (ptr c9 0) (by generalize a1.eval = ρ at ec ef e0 ⊢; simp [execOp, ec, ef, e0, IntWalk.i64_left, go_sem]) st.inv (Below.refl _ _) rfl)
     | 7, ho => (injection ho with ho; subst ho; have ec := AnyOrder.evc a1; have ef := AnyOrder.evf a1; have e0 : a1.eval (.tmp 74) = ptr c9 0 := st.done 6 74 (hdep ⟨6, .data⟩ (by simp) rfl) rfl; exact AnyOrder.sv rfl rfl (.int .i64 x.k.id) (by have hk := KAt.get0 (At.step HK.out st.inv); generalize a1.eval = ρ at ec ef e0 ⊢; simp [execOp, e0, go_sem, hk]) st.inv (Below.refl _ _) rfl)
     | 8, ho => (injection ho with ho; subst ho; have ec := AnyOrder.evc a1; have ef := AnyOrder.evf a1; have e0 : a1.eval (.tmp 73) = .int .i64 y.id := st.done 5 73 (hdep ⟨5, .data⟩ (by simp) rfl) rfl; have e1 : a1.eval (.tmp 75) = .int .i64 x.k.id := st.done 7 75 (hdep ⟨7, .data⟩ (by simp) rfl) rfl; exact AnyOrder.sv rfl rfl (.bool false) (by generalize a1.eval = ρ at ec ef e0 e1 ⊢; simp [execOp, e0, e1, go_sem, NID.out]) st.inv (Below.refl _ _) rfl)
     | n + 9, ho => exact absurd hin (by omega)
    ·intro w2 hJ
     simp only [AnyOrder.finK, List.take_succ_cons, List.take_zero, List.drop_succ_cons, List.drop_zero, Act.put, List.setIfInBounds_toArray, List.set_cons_zero, List.set_cons_succ]
     have HBL2 := Lib.hid (HBL.out.trans (hJ.mono HBL.out.size))
     go_wp2_with fail
     go_roundg (n - (j + 1))
     case measure => have := HG.out; omega
     case rel => exact ⟨j + 1, by omega, rfl, (by have := HLE.out; rw [IntWalk.wrap64_in _ (by omega)]; rfl), HBL2.out, fun i hi y hy => by
      by_cases hij : i < j
      ·exact HNO.out i hij y hy
      ·obtain rfl : i = j := by omega
       rw [HPX.out] at hy
       injection hy with hy
       subst hy
       exact HID.out⟩
  ·obtain rfl : j = n := by omega
   have HT := Lib.hid (HT1.out.step HBL.out)
   go_upto_region 19 with fail
   clear kl
   have k1 := KAt.get1 HK.out; have k2 := KAt.get2 HK.out; have k3 := KAt.get3 HK.out; have k4 := KAt.get4 HK.out
   go_upto_region 20 with (first | ((with_reducible apply wpList_build_asked 98 100 102 104 (k := x.k)); exact rfl; exact rfl; exact rfl; exact rfl; exact rfl; exact rfl) | ((with_reducible apply wpList_store_knew (c := askedK x.k)); exact rfl; exact rfl; exact rfl; exact rfl))
   have hbn := below_new wr (.cells (askedK x.k).cells 46)
   have HT2 := Lib.hid (HT.out.step hbn); have HA2 := Lib.hid (HA.out.step hbn); have HK2 := Lib.hid (HK.out.step hbn); have HKB := Lib.hid (KAt.new wr (askedK x.k))
   obtain ⟨W2, hW2⟩ : ∃ y, wr.alloc (.cells (askedK x.k).cells 46) = y := ⟨_, rfl⟩
   rw [hW2] at HT2 HA2 HK2 HKB ⊢; clear hW2 hbn k1 k2 k3 k4 HT HA HK
   generalize wr.heap.size = c14 at HKB ⊢
   obtain ⟨t1, t2, n1, n2⟩ : ∃ t1 t2 : Bool, (x.k.id != x.ix) = t1 ∧ (x.k.st != 1) = t2 := ⟨_, _, rfl, rfl⟩
   have e1 : decide (x.k.id = x.ix) = !t1 := by rw [← n1]; simp [bne]; rfl
   have e2 : decide (x.k.st = 1) = !t2 := by rw [← n2]; simp [bne]; rfl
   have q1 : (x.k.id == x.ix) = !t1 := by rw [← n1]; simp [bne]
   have q2 : (x.k.st == 1) = !t2 := by rw [← n2]; simp [bne]
   obtain ⟨z, hz⟩ : ∃ z, chkK u.c (askedK x.k) = z := ⟨_, rfl⟩
   obtain ⟨t3, n3⟩ : ∃ t3 : Bool, (z != 0) = t3 := ⟨_, rfl⟩
   have e3 : decide (z = 0) = !t3 := by rw [← n3]; simp [bne]; rfl
   have q3 : (z == 0) = !t3 := by rw [← n3]; simp [bne]
   obtain ⟨t4, t5, t6, t7, d4, d5, d6, d7⟩ : ∃ t1 t2 t3 t4 : Bool, decide (x.k.own < 1) = t1 ∧ decide (1073741824 < x.k.own) = t2 ∧ decide (x.k.born < 0) = t3 ∧ decide (1073741824 < x.k.born) = t4 := ⟨_, _, _, _, rfl, rfl, rfl, rfl⟩
   have g5 : decide (x.k.own > 1073741824) = t5 := d5
   have g7 : decide (x.k.born > 1073741824) = t7 := d7
   have HBP : Hid (badP u x = (t1 || (t2 || (t3 || (t4 || (t5 || (t6 || t7))))))) := Lib.hid (by unfold badP badA top; rw [n1, n2, hz, n3, d4, d5, d6, d7])
   have CK0 := fun W => rcheck_any u.c (askedK x.k) W
   rw [hz] at CK0
   have CK := Lib.hid CK0; have HZ := Lib.hid hz; clear hz CK0
   have k0 := KAt.get0 HK2.out; have k5 := KAt.get5 HK2.out; have k6 := KAt.get6 HK2.out; have k7 := KAt.get7 HK2.out; have ki := CgAt.k0 HT2.out.cg
   cases t1
   ·cases t2
    ·cases t3
     ·have HC := Lib.hid (UkAt.kc HT2.out.bk); have HKA := HKB
      go_wp2_with (first | ((with_reducible apply wpList_load_cpart (c := u.c) (h := HC.out)); exact rfl; exact rfl; exact rfl) | ((with_reducible apply wpList_load_kat (h := HKA.out)); exact rfl; exact rfl; exact rfl))
      refine (CK.out _).mono ?_
      rintro e w4 ⟨rfl, hb4⟩
      have HT3 := Lib.hid (HT2.out.step hb4); have HA3 := Lib.hid (HA2.out.step hb4); have HK3 := Lib.hid (HK2.out.step hb4)
      clear k0 k5 k6 k7 ki HC HKA hb4 CK
      have k0 := KAt.get0 HK3.out; have k5 := KAt.get5 HK3.out; have k6 := KAt.get6 HK3.out; have k7 := KAt.get7 HK3.out
      cases t4
      ·cases t5
       ·cases t6
        ·cases t7
         ·have HRES0b : Hid (applyU u x = p2 (nextU u x.k)) := Lib.hid (by rw [HRES0.out, if_neg (by rw [HBP.out]; decide)])
          have HOC2 := HOC
          have CN := Lib.hid (HOK.out.next HOC.out HA3.out x.k)
          obtain ⟨res, hres⟩ : ∃ r, nextU u x.k = r := ⟨_, rfl⟩
          rw [hres] at CN HRES0b; clear hres
          obtain ⟨rb, rc, rn⟩ := res
          have HRES : Hid (applyU u x = (rb, rn)) := Lib.hid HRES0b.out
          clear HRES0b
          go_upto_region 22 with fail
          clear k0 k5 k6 k7 n1 n2 n3 e1 e2 e3 q1 q2 q3 d4 d5 d6 d7 g5 g7
          have HU := Lib.hid HT3.out.bk; have HK := HK3
          go_wp2_with (first | ((with_reducible apply wpList_load_uk (h := HU.out)); exact rfl; exact rfl; exact rfl) | ((with_reducible apply wpList_load_kat (h := HK.out)); exact rfl; exact rfl; exact rfl))
          with_reducible refine CN.out.mono ?_
          rintro e w5 ⟨o5, p5, rfl, ha5, hb5⟩
          clear HU CN
          have HT7 := Lib.hid (HT3.out.step hb5); have HA7 := Lib.hid ha5; clear HT3 hb5 ha5
          have hm := made2U w5 rb o5 p5 rc
          have HM1 := Lib.hid hm.1; have HM2 := Lib.hid hm.2.1; have HQ6 := Lib.hid hm.2.2.1; have HQ7 := Lib.hid hm.2.2.2; clear hm
          go_upto_region 23 with (first | ((with_reducible apply wpList_store_uk (b := rb) (s := o5) (t := p5) (hq := HQ6.out)); exact rfl; exact rfl; exact rfl; exact rfl) | ((with_reducible apply wpList_store_cg (c := rc) (hq := HQ7.out)); exact rfl; exact rfl; exact rfl; exact rfl))
          have HT8 := Lib.hid (HT7.out.step HM1.out); have HA8 := Lib.hid (HA7.out.step HM1.out); clear HT7 HA7 HQ6 HQ7 HM1
          obtain ⟨w8, hw8⟩ : ∃ y, (((w5.alloc (.cells Z26 65)).alloc (.cells Z11 48)).setRow w5.heap.size (rb.cells o5 p5)).setRow (w5.heap.size + 1) rc.cells = y := ⟨_, rfl⟩
          rw [hw8] at HT8 HA8 HM2 ⊢; clear hw8
          generalize w5.heap.size = p6 at HM2 ⊢
          have HQ := Lib.hid HT8.out.ans
          have HF := Lib.hid (HT8.out.good HA8.out rn)
          go_wp2_with (first | ((with_reducible apply wpList_load_uk (h := HM2.out)); exact rfl; exact rfl; exact rfl) | ((with_reducible apply wpList_store_uk (b := rb) (s := o5) (t := p5) (hq := HQ.out)); exact rfl; exact rfl; exact rfl; exact rfl))
          exact bodyPost_ret (results_u2 Tryz.results39 rfl rfl HF.out.1) rfl (by rw [HRES.out]; exact HF.out.2)
         ·have HRES : Hid (applyU u x = (zu, 1)) := Lib.hid (by rw [HRES0.out, if_pos (by rw [HBP.out]; simp)])
          have HQ := Lib.hid HT3.out.ans
          have HF := Lib.hid (HT3.out.good (UAt.zero _) 1)
          go_wp2_with (first | ((with_reducible apply wpList_build_zu); exact rfl; exact rfl) | ((with_reducible apply wpList_store_uk (b := zu) (s := s0) (t := s0) (hq := HQ.out)); exact rfl; exact rfl; exact rfl; exact rfl))
          exact bodyPost_ret (results_u2 Tryz.results39 rfl rfl HF.out.1) rfl (by rw [HRES.out]; exact HF.out.2)
        ·have HRES : Hid (applyU u x = (zu, 1)) := Lib.hid (by rw [HRES0.out, if_pos (by rw [HBP.out]; simp)])
         have HQ := Lib.hid HT3.out.ans
         have HF := Lib.hid (HT3.out.good (UAt.zero _) 1)
         go_wp2_with (first | ((with_reducible apply wpList_build_zu); exact rfl; exact rfl) | ((with_reducible apply wpList_store_uk (b := zu) (s := s0) (t := s0) (hq := HQ.out)); exact rfl; exact rfl; exact rfl; exact rfl))
         exact bodyPost_ret (results_u2 Tryz.results39 rfl rfl HF.out.1) rfl (by rw [HRES.out]; exact HF.out.2)
       ·have HRES : Hid (applyU u x = (zu, 1)) := Lib.hid (by rw [HRES0.out, if_pos (by rw [HBP.out]; simp)])
        have HQ := Lib.hid HT3.out.ans
        have HF := Lib.hid (HT3.out.good (UAt.zero _) 1)
        go_wp2_with (first | ((with_reducible apply wpList_build_zu); exact rfl; exact rfl) | ((with_reducible apply wpList_store_uk (b := zu) (s := s0) (t := s0) (hq := HQ.out)); exact rfl; exact rfl; exact rfl; exact rfl))
        exact bodyPost_ret (results_u2 Tryz.results39 rfl rfl HF.out.1) rfl (by rw [HRES.out]; exact HF.out.2)
      ·have HRES : Hid (applyU u x = (zu, 1)) := Lib.hid (by rw [HRES0.out, if_pos (by rw [HBP.out]; simp)])
       have HQ := Lib.hid HT3.out.ans
       have HF := Lib.hid (HT3.out.good (UAt.zero _) 1)
       go_wp2_with (first | ((with_reducible apply wpList_build_zu); exact rfl; exact rfl) | ((with_reducible apply wpList_store_uk (b := zu) (s := s0) (t := s0) (hq := HQ.out)); exact rfl; exact rfl; exact rfl; exact rfl))
       exact bodyPost_ret (results_u2 Tryz.results39 rfl rfl HF.out.1) rfl (by rw [HRES.out]; exact HF.out.2)
     ·have HC := Lib.hid (UkAt.kc HT2.out.bk); have HKA := HKB
      go_wp2_with (first | ((with_reducible apply wpList_load_cpart (c := u.c) (h := HC.out)); exact rfl; exact rfl; exact rfl) | ((with_reducible apply wpList_load_kat (h := HKA.out)); exact rfl; exact rfl; exact rfl))
      refine (CK.out _).mono ?_
      rintro e w4 ⟨rfl, hb4⟩
      have HT3 := Lib.hid (HT2.out.step hb4); have HA3 := Lib.hid (HA2.out.step hb4); have HK3 := Lib.hid (HK2.out.step hb4)
      clear k0 k5 k6 k7 ki HC HKA hb4 CK
      have k0 := KAt.get0 HK3.out; have k5 := KAt.get5 HK3.out; have k6 := KAt.get6 HK3.out; have k7 := KAt.get7 HK3.out
      have HRES : Hid (applyU u x = (zu, 1)) := Lib.hid (by rw [HRES0.out, if_pos (by rw [HBP.out]; simp)])
      have HQ := Lib.hid HT3.out.ans
      have HF := Lib.hid (HT3.out.good (UAt.zero _) 1)
      go_wp2_with (first | ((with_reducible apply wpList_build_zu); exact rfl; exact rfl) | ((with_reducible apply wpList_store_uk (b := zu) (s := s0) (t := s0) (hq := HQ.out)); exact rfl; exact rfl; exact rfl; exact rfl))
      exact bodyPost_ret (results_u2 Tryz.results39 rfl rfl HF.out.1) rfl (by rw [HRES.out]; exact HF.out.2)
    ·have HRES : Hid (applyU u x = (zu, 1)) := Lib.hid (by rw [HRES0.out, if_pos (by rw [HBP.out]; simp)])
     have HQ := Lib.hid HT2.out.ans
     have HF := Lib.hid (HT2.out.good (UAt.zero _) 1)
     go_wp2_with (first | ((with_reducible apply wpList_build_zu); exact rfl; exact rfl) | ((with_reducible apply wpList_store_uk (b := zu) (s := s0) (t := s0) (hq := HQ.out)); exact rfl; exact rfl; exact rfl; exact rfl))
     exact bodyPost_ret (results_u2 Tryz.results39 rfl rfl HF.out.1) rfl (by rw [HRES.out]; exact HF.out.2)
   ·have HRES : Hid (applyU u x = (zu, 1)) := Lib.hid (by rw [HRES0.out, if_pos (by rw [HBP.out]; simp)])
    have HQ := Lib.hid HT2.out.ans
    have HF := Lib.hid (HT2.out.good (UAt.zero _) 1)
    go_wp2_with (first | ((with_reducible apply wpList_build_zu); exact rfl; exact rfl) | ((with_reducible apply wpList_store_uk (b := zu) (s := s0) (t := s0) (hq := HQ.out)); exact rfl; exact rfl; exact rfl; exact rfl))
    exact bodyPost_ret (results_u2 Tryz.results39 rfl rfl HF.out.1) rfl (by rw [HRES.out]; exact HF.out.2)
theorem applyU_any {u : U} {sl sd : Sl} {x : Cg} {w : World} (ha : UAt w u sl sd) (hok : u.Ok) : Calls Tryz.prog 39 #[u.V sl sd, x.V] w (U2 w (applyU u x)) := by
 cases hi : u.is
 ·exact applyU_nil ha hok hi
 ·by_cases hx : x.ix < 1 ∨ wrap64 (x.ix - 1) ≠ u.ix
  ·exact applyU_index ha hok hi hx
  ·have h1 : ¬ x.ix < 1 := fun h => hx (.inl h)
   have h2 : wrap64 (x.ix - 1) = u.ix := Decidable.byContradiction fun h => hx (.inr h)
   cases hb : x.k.beq zk
   ·by_cases hc : x.car ≠ 0 ∨ x.mode ≠ 0
    ·exact applyU_car ha hok hi h1 h2 hb hc
    ·have hc2 : x.car = 0 ∧ x.mode = 0 := ⟨Decidable.byContradiction fun h => hc (.inl h), Decidable.byContradiction fun h => hc (.inr h)⟩
     cases hs : seekK x.k.id u.live with
     | none => exact applyU_placed ha hok hi h1 h2 hb hc2 hs
     | some a0 => exact applyU_live ha hok hi h1 h2 hb hc2 a0 hs
   ·exact applyU_set ha hok hi h1 h2 hb
end Go.Proofs.YtplapoenhohliaaGreat
