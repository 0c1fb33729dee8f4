import Derived.Test.YtplapoenhohliaaGreatRbD
namespace Go.Proofs.YtplapoenhohliaaGreat
open Go.RowKit Go.Lib
open Sh.Plain (KV get put del Rise)
set_option linter.unusedVariables false
set_option linter.unusedSimpArgs false
structure U.Ok (u : U) : Prop where
 ix : 0 ≤ u.ix ∧ u.ix ≤ 100000
 ll : u.live.length ≤ 1000
 ld : u.done.length ≤ 1000
 okc : u.is = true → okc u.c = true
theorem c3_of {c : Cfg} (h : okc c = true) : 1 ≤ c.get 3 := by
 have := (ok_at h (k := 3) (by decide)).1
 have e : lo 3 = 1 := by decide
 omega
theorem U.Ok.next {u : U} {sl sd : Sl} {w : World} (h : u.Ok) (hc : YtplapoenhohliaaGreat.okc u.c = true) (ha : UAt w u sl sd) (x : K) : Calls Tryz.prog 58 #[u.V sl sd, x.V] w (U3 w (nextU u x)) := nextU_any ha h.ix h.ll h.ld (c3_of hc)
def badA (n m : Int) : Bool := decide (n < 1) || (decide (top < n) || (decide (m < 0) || decide (top < m)))
def placeU (u : U) (x : K) (n m : Int) : U × Cg × Int :=
 if chkK u.c x ≠ 0 then (zu, zg, chkK u.c x) else if badA n m = true then (zu, zg, 1) else nextU u { x with id := u.ix + 1, own := n, born := m, st := 1 }
def cancelU (u : U) (i n : Int) : U × Cg × Int :=
 if u.is = false then (zu, zg, 3) else match findU u i with
  | none => (zu, zg, 6)
  | some x => if x.own ≠ n then (zu, zg, 8) else if x.st ≠ 1 ∧ x.st ≠ 2 then (zu, zg, 7) else nextU u { x with st := 5 }
def setU (u : U) (n m : Int) : U × Cg × Int :=
 if u.is = false then (zu, zg, 3) else if n < 1 ∨ u.c.get 1 < n ∨ (m ≠ 1 ∧ m ≠ 2) then (zu, zg, 1)
 else ({ u with m := u.m.set (n - 1).toNat m, ml := by rw [List.length_set]; exact u.ml, ix := u.ix + 1 }, ⟨u.ix + 1, zk, n, m⟩, 0)
section
variable {w W wx : World} {B g s q r : Nat} {u u' : U} {sl sd : Sl} {x x' : K}
end
structure YU (w wx : World) (g q r : Nat) (u : U) (sl sd : Sl) : Prop where
 bel : Below w.heap.size w wx
 bk : UkAt wx g u sl sd
 ans : ∃ z a b, UkAt wx q z a b
 an2 : CgAt wx r zg
 lo : w.heap.size ≤ g ∧ w.heap.size ≤ q ∧ w.heap.size ≤ r
 ne : g ≠ q
section
variable {w W wx : World} {g q r : Nat} {u u' : U} {sl sd sl' sd' : Sl}
theorem YU.one (h : YU w wx g q r u sl sd) {i : Nat} {v : Value} (hb : UkAt (wx.setCell ⟨g, i, none⟩ v) g u' sl' sd') : YU w (wx.setCell ⟨g, i, none⟩ v) g q r u' sl' sd' := by
 obtain ⟨z, a, b, hz⟩ := h.ans
 exact ⟨h.bel.setCell h.lo.1 _, hb, ⟨z, a, b, At.far hz (Ne.symm h.ne) _⟩, At.far h.an2 (At.ne h.an2 h.bk (by decide)) _, h.lo, h.ne⟩
theorem YU.put (h : YU w wx g q r u sl sd) : YU w (wx.setRow q (u.cells sl sd)) g q r u sl sd ∧ UkAt (wx.setRow q (u.cells sl sd)) q u sl sd := by
 obtain ⟨z, a, b, hz⟩ := h.ans
 have hq : UkAt (wx.setRow q (u.cells sl sd)) q u sl sd := At.setRow hz _
 exact ⟨⟨setRow_below h.bel h.lo.2.1 _, At.farRow h.bk h.ne, ⟨u, sl, sd, hq⟩, At.farRow h.an2 (At.ne h.an2 hz (by decide)), h.lo, h.ne⟩, hq⟩
theorem YU.drew (h : YU w wx g q r u sl sd) : YU w wx.drew g q r u sl sd := ⟨⟨h.bel.os, h.bel.tape, h.bel.output, h.bel.size, h.bel.block⟩, h.bk, h.ans, h.an2, h.lo, h.ne⟩
theorem YU.good (h : YU w wx g q r u sl sd) {b : U} {o p : Sl} (ha : UAt wx b o p) (c : Cg) (n : Int) : ∃ z a' b', UkAt wx q z a' b' ∧ CgAt (wx.setRow q (b.cells o p)) r zg ∧ UkAt ((wx.setRow q (b.cells o p)).setRow r c.cells) q b o p ∧ CgAt ((wx.setRow q (b.cells o p)).setRow r c.cells) r c ∧ U3 w (b, c, n) (.returned (.tuple #[b.V o p, c.V, .int .i64 n])) ((wx.setRow q (b.cells o p)).setRow r c.cells) := by
 obtain ⟨z, a, b', hz⟩ := h.ans
 have hf := fin3U (x := c) hz h.an2 h.bel h.lo.2.1 h.lo.2.2 ha n
 exact ⟨z, a, b', hz, At.farRow h.an2 (At.ne h.an2 hz (by decide)), hf.1, hf.2.1, hf.2.2⟩
theorem YU.bad (h : YU w wx g q r u sl sd) (n : Int) : ∃ z a b, UkAt wx q z a b ∧ CgAt (wx.setRow q (zu.cells s0 s0)) r zg ∧ UkAt ((wx.setRow q (zu.cells s0 s0)).setRow r zg.cells) q zu s0 s0 ∧ CgAt ((wx.setRow q (zu.cells s0 s0)).setRow r zg.cells) r zg ∧ U3 w (zu, zg, n) (.returned (.tuple #[zu.V s0 s0, zg.V, .int .i64 n])) ((wx.setRow q (zu.cells s0 s0)).setRow r zg.cells) := h.good (UAt.zero _) zg n
theorem YU.fin (h : YU w wx g q r u sl sd) {z : U} {a b : Sl} (hq : UkAt wx q z a b) (c : Cg) (n : Int) (hrr : UAt wx z a b) :
  UkAt (wx.setRow r c.cells) q z a b ∧ CgAt (wx.setRow r c.cells) r c ∧ U3 w (z, c, n) (.returned (.tuple #[z.V a b, c.V, .int .i64 n])) (wx.setRow r c.cells) :=
 ⟨At.farRow hq (At.ne hq h.an2 (by decide)), At.setRow h.an2 _, a, b, rfl, hrr.farRow h.an2 (by decide), setRow_below h.bel h.lo.2.2 _⟩
end
theorem TC.new (w : World) (u : U) (sl sd : Sl) : ∀ W, W = ((w.alloc (.cells (u.cells sl sd) 65)).alloc (.cells Z26 65)).alloc (.cells Z11 48) → YU w W w.heap.size (w.heap.size + 1) (w.heap.size + 1 + 1) u sl sd := by
 rintro W rfl
 obtain ⟨h1, h2, h3, h4⟩ := new3 w (u.cells sl sd) Z26 Z11 65 65 48
 exact ⟨h1, h2, ⟨zu, s0, s0, h3⟩, h4, ⟨by omega, by omega, by omega⟩, by omega⟩
end Go.Proofs.YtplapoenhohliaaGreat
namespace Go.Proofs.YtplapoenhohliaaGreat
open Go.RowKit Go.Lib
open Sh.Plain (KV get put del Rise)
set_option linter.unusedVariables false
set_option linter.unusedSimpArgs false
theorem built_set (n a b : Int) : Tryz.prog.built 48 [(0, .int .i64 n), (2, .int .i64 a), (3, .int .i64 b)] = some (⟨n, zk, a, b⟩ : Cg).cells := by kernel_rfl
theorem run_build_set {ρ : Operand → Value} {w : World} {x y z : Tmp} {n a b : Int} {d : Option Tmp} {t : TypeId} {pos : String} {af : Array Edge} {gd : Option (Nat × Bool)} (e1 : ρ (.tmp x) = .int .i64 n) (e2 : ρ (.tmp y) = .int .i64 a) (e3 : ρ (.tmp z) = .int .i64 b) :
  (execOp ρ { dst := d, op := Op.build 48 #[(0, .tmp x), (2, .tmp y), (3, .tmp z)], type := t, pos := pos, after := af, guard := gd }).run Tryz.prog w = .ok (.value (⟨n, zk, a, b⟩ : Cg).V) w := by
 have hf : Tryz.prog.built 48 ((#[(0, Operand.tmp x), (2, .tmp y), (3, .tmp z)] : Array (Nat × Operand)).map fun (i, u) => (i, ρ u)).toList = some (⟨n, zk, a, b⟩ : Cg).cells := by
  simp only [List.map_toArray, List.map_cons, List.map_nil, e1, e2, e3]
  exact built_set n a b
 unfold execOp
 simp only [Sem.run_bind, run_build w 48 _ _ hf, Result.andThen_ok, Sem.run_pure]
set_option maxRecDepth 100000 in
set_option maxHeartbeats 4000000 in
theorem setU_any {u : U} {sl sd : Sl} {n m : Int} {w : World} (ha : UAt w u sl sd) (hok : u.Ok) : Calls Tryz.prog 56 #[u.V sl sd, .int .i64 n, .int .i64 m] w (U3 w (setU u n m)) := by
 have HT := Lib.hid (TC.new w u sl sd _ rfl)
 have HA := Lib.hid (ha.step HT.out.bel)
 have HA0 := Lib.hid ha
 have HOK := Lib.hid hok; clear hok ha
 cases hi : u.is
 ·have HIS := Lib.hid hi; clear hi
  have HRES : Hid (setU u n m = (zu, zg, 3)) := Lib.hid (by unfold setU; rw [if_pos HIS.out])
  go_enter Tryz.func56, Tryz.ntmps56
  go_upto_region 1 with fail
  obtain ⟨W, hW⟩ : ∃ W, ((w.alloc (.cells (u.cells sl sd) 65)).alloc (.cells Z26 65)).alloc (.cells Z11 48) = W := ⟨_, rfl⟩
  rw [hW] at HT HA ⊢; clear hW
  generalize w.heap.size + 1 + 1 = r at HT ⊢
  generalize w.heap.size + 1 = q at HT ⊢
  obtain ⟨g, hg⟩ : ∃ g, w.heap.size = g := ⟨_, rfl⟩
  rw [hg] at HT ⊢; clear hg
  have k18 := UkAt.k18 HT.out.bk
  rw [HIS.out] at k18
  obtain ⟨z9, a9, b9, h1, h2, h3, h4, h5⟩ := HT.out.bad 3
  have HQ := Lib.hid h1; have HR9 := Lib.hid h2; have HF1 := Lib.hid h3; have HF2 := Lib.hid h4; have HF3 := Lib.hid h5; clear h1 h2 h3 h4 h5
  go_wp2_with (first | ((with_reducible apply wpList_build_zu); exact rfl; exact rfl) | ((with_reducible apply wpList_build_zg); exact rfl; exact rfl) | ((with_reducible apply wpList_store_uk (b := zu) (s := s0) (t := s0) (hq := HQ.out)); exact rfl; exact rfl; exact rfl; exact rfl) | ((with_reducible apply wpList_store_cg (c := zg) (hq := HR9.out)); exact rfl; exact rfl; exact rfl; exact rfl))
  exact bodyPost_ret (results_u3 Tryz.results56 rfl rfl rfl HF1.out HF2.out) rfl (by rw [HRES.out]; exact HF3.out)
 ·have HIS := Lib.hid hi; have HOC := Lib.hid (HOK.out.okc hi); clear hi
  obtain ⟨t1, t2, d1, d2⟩ : ∃ t1 t2 : Bool, decide (n < 1) = t1 ∧ decide (u.c.get 1 < n) = t2 := ⟨_, _, rfl, rfl⟩
  have g2 : decide (n > u.c.get 1) = t2 := d2
  obtain ⟨t3, t4, d3, d4⟩ : ∃ t3 t4 : Bool, (m != 1) = t3 ∧ (m != 2) = t4 := ⟨_, _, rfl, rfl⟩
  have e3 : decide (m = 1) = !t3 := by rw [← d3]; simp [bne]; rfl
  have e4 : decide (m = 2) = !t4 := by rw [← d4]; simp [bne]; rfl
  have q3 : (m == 1) = !t3 := by rw [← d3]; simp [bne]
  have q4 : (m == 2) = !t4 := by rw [← d4]; simp [bne]
  have HD : Hid ((n < 1 ∨ u.c.get 1 < n ∨ (m ≠ 1 ∧ m ≠ 2)) ↔ (t1 || (t2 || (t3 && t4))) = true) := Lib.hid (by
   rw [← d1, ← d2, ← d3, ← d4]; simp [bne])
  cases t1
  ·cases t2
   ·cases t3
    ·have hnd : ¬ (n < 1 ∨ u.c.get 1 < n ∨ (m ≠ 1 ∧ m ≠ 2)) := fun h => absurd (HD.out.1 h) (by simp)
     have hn1 : 1 ≤ n ∧ n ≤ u.c.get 1 := by omega
     have h14 : u.c.get 1 ≤ 4 := by
      have := (ok_at HOC.out (k := 1) (by decide)).2
      have e : hi 1 = 4 := by decide
      omega
     obtain ⟨i, hi, hc⟩ : ∃ i : Nat, i < 4 ∧ n = (i : Int) + 1 := ⟨(n - 1).toNat, by omega, by omega⟩
     have HRES0 : Hid (setU u n m = ({ u with m := u.m.set (n - 1).toNat m, ml := by rw [List.length_set]; exact u.ml, ix := u.ix + 1 }, ⟨u.ix + 1, zk, n, m⟩, 0)) := Lib.hid (by unfold setU; rw [if_neg (by rw [HIS.out]; decide), if_neg hnd])
     have hti : (n - 1).toNat = i := by omega
     obtain ⟨u', hu'⟩ : ∃ u' : U, ({ u with m := u.m.set i m, ml := by rw [List.length_set]; exact u.ml, ix := u.ix + 1 } : U) = u' := ⟨_, rfl⟩
     obtain ⟨cg, hcg⟩ : ∃ cg : Cg, (⟨u.ix + 1, zk, n, m⟩ : Cg) = cg := ⟨_, rfl⟩
     have HRES : Hid (setU u n m = (u', cg, 0)) := Lib.hid (by rw [HRES0.out, ← hu', ← hcg]; simp only [hti])
     have HCG : Hid ((⟨u.ix + 1, zk, n, m⟩ : Cg) = cg) := Lib.hid hcg
     have HU' : Hid (({ u with m := u.m.set i m, ml := by rw [List.length_set]; exact u.ml, ix := u.ix + 1 } : U) = u') := Lib.hid hu'
     clear hnd hn1 h14 HRES0 hti hu' hcg HD
     subst hc
     have dt : decide (u.ix ≥ 1073741824) = false := decide_eq_false (by have := HOK.out.ix; omega)
     have dt2 : decide (1073741824 ≤ u.ix) = false := decide_eq_false (by have := HOK.out.ix; omega)
     have hw : IntKind.i64.wrap (u.ix + 1) = u.ix + 1 := IntWalk.i64_in _ (by have := HOK.out.ix; omega)
     have hw2 : wrap64 (u.ix + 1) = u.ix + 1 := IntWalk.wrap64_in _ (by have := HOK.out.ix; omega)
     have hi1 : IntKind.i64.wrap ((i : Int) + 1 - 1) = (i : Int) := by rw [IntWalk.i64_in _ (by omega)]; omega
     have b1 : (i : Int) < 4 := by omega
     have b2 : (0 : Int) ≤ (i : Int) := by omega
     go_enter Tryz.func56, Tryz.ntmps56
     go_upto_region 1 with fail
     obtain ⟨W, hW⟩ : ∃ W, ((w.alloc (.cells (u.cells sl sd) 65)).alloc (.cells Z26 65)).alloc (.cells Z11 48) = W := ⟨_, rfl⟩
     rw [hW] at HT HA ⊢; clear hW
     generalize w.heap.size + 1 + 1 = r at HT ⊢
     generalize w.heap.size + 1 = q at HT ⊢
     obtain ⟨g, hg⟩ : ∃ g, w.heap.size = g := ⟨_, rfl⟩
     rw [hg] at HT ⊢; clear hg
     have k18 := UkAt.k18 HT.out.bk
     rw [HIS.out] at k18
     have k1 := UkAt.kn HT.out.bk (j := 1) (by decide)
     have k19 := UkAt.k19 HT.out.bk
     go_upto_region 7 with fail
     clear k1 k19 k18 d1 d2 g2 d3 d4 e3 e4 q3 q4 dt dt2
     have kM := UkAt.kM HT.out.bk hi; have fM := At.frozen HT.out.bk (22 + i)
     go_upto_region 8 with fail
     have HT1 := Lib.hid (HT.out.one (UkAt.setM HT.out.bk hi m))
     obtain ⟨y1, hy1⟩ : ∃ y, W.setCell ⟨g, 22 + i, none⟩ (.int .i64 m) = y := ⟨_, rfl⟩
     rw [hy1] at HT1 ⊢; clear hy1 kM fM HT b1 b2 hi1
     have k19 := UkAt.k19 HT1.out.bk; have f19 := At.frozen HT1.out.bk 19
     go_upto_region 9 with fail
     have HT2 := Lib.hid (HT1.out.one (UkAt.setI HT1.out.bk (u.ix + 1)))
     obtain ⟨y3, hy3⟩ : ∃ y, y1.setCell ⟨g, 19, none⟩ (.int .i64 (u.ix + 1)) = y := ⟨_, rfl⟩
     rw [hy3] at HT2 ⊢; clear hy3 k19 f19 HT1
     have HT3 : Hid (YU w y3 g q r u' sl sd) := Lib.hid (by rw [← HU'.out]; exact HT2.out)
     have HIX : Hid (u'.ix = u.ix + 1) := Lib.hid (by rw [← HU'.out])
     have HUA : Hid (∀ w9, Below w.heap.size w w9 → UAt w9 u' sl sd) := Lib.hid (fun w9 h9 => by rw [← HU'.out]; exact HA0.out.step h9)
     clear HT2 HU'
     obtain ⟨nn, hnn⟩ : ∃ nn : Int, (i : Int) + 1 = nn := ⟨_, rfl⟩
     rw [hnn] at HCG ⊢; clear hnn
     refine AnyOrder.region_put 7 [u'.V sl sd, ptr g 19, .int .i64 (u.ix + 1), .int .i64 nn, .int .i64 m, cg.V, undef] (fun i w1 => i = 6 → UkAt w1 q u' sl sd) (fun w1 => YU w w1 g q r u' sl sd) (by kernel_rfl) (by kernel_rfl) rfl ?_ HT3.out.drew ?_ ?_
     ·intro i hi hd
      match i, hi with
      | 0, _ => cases hd
      | 1, _ => cases hd
      | 2, _ => cases hd
      | 3, _ => cases hd
      | 4, _ => cases hd
      | 5, _ => cases hd
      | 6, _ => rfl
     ·intro i o listed a1 w2 hin ho st hl hdep
      have e1 : a1.eval (.tmp 1) = .int .i64 nn := st.old hl 1 (by kernel_rfl)
      have e2 : a1.eval (.tmp 2) = .int .i64 m := st.old hl 2 (by kernel_rfl)
      have e3 : a1.eval (.tmp 3) = ptr g 0 := st.old hl 3 (by kernel_rfl)
      have e6 : a1.eval (.tmp 6) = ptr q 0 := st.old hl 6 (by kernel_rfl)
      match i, ho with
      | 0, ho => (injection ho with ho; subst ho; exact AnyOrder.step5_value rfl (AnyOrder.wanted_none rfl) (u'.V sl sd) (run_load_uk e3 st.inv.bk) st.inv rfl (fun j hj => st.mark j hj) (fun h => by cases h))
      | 1, ho => (injection ho with ho; subst ho; exact AnyOrder.step5_value rfl (AnyOrder.wanted_none rfl) (ptr g 19) (by generalize a1.eval = ρ at e3 ⊢; simp [execOp, e3, go_sem]) st.inv rfl (fun j hj => st.mark j hj) (fun h => by cases h))
      | 2, ho => (injection ho with ho; subst ho; have ed : a1.eval (.tmp 48) = ptr g 19 := st.done 1 48 (hdep ⟨1, .data⟩ (by simp) rfl) rfl; exact AnyOrder.step5_value rfl (AnyOrder.wanted_none rfl) (.int .i64 (u.ix + 1)) (by have hk := UkAt.k19 st.inv.bk; rw [HIX.out] at hk; generalize a1.eval = ρ at ed ⊢; simp [execOp, ed, go_sem, hk]) st.inv rfl (fun j hj => st.mark j hj) (fun h => by cases h))
      | 3, ho => (injection ho with ho; subst ho; exact AnyOrder.step5_value rfl (AnyOrder.wanted_none rfl) (.int .i64 nn) (AnyOrder.run_move e1) st.inv rfl (fun j hj => st.mark j hj) (fun h => by cases h))
      | 4, ho => (injection ho with ho; subst ho; exact AnyOrder.step5_value rfl (AnyOrder.wanted_none rfl) (.int .i64 m) (AnyOrder.run_move e2) st.inv rfl (fun j hj => st.mark j hj) (fun h => by cases h))
      | 5, ho => (injection ho with ho; subst ho; have x1 : a1.eval (.tmp 49) = .int .i64 (u.ix + 1) := st.done 2 49 (hdep ⟨2, .data⟩ (by simp) rfl) rfl; have x2 : a1.eval (.tmp 50) = .int .i64 nn := st.done 3 50 (hdep ⟨3, .data⟩ (by simp) rfl) rfl; have x3 : a1.eval (.tmp 51) = .int .i64 m := st.done 4 51 (hdep ⟨4, .data⟩ (by simp) rfl) rfl; exact AnyOrder.step5_value rfl (AnyOrder.wanted_none rfl) cg.V (by rw [← HCG.out]; exact run_build_set x1 x2 x3) st.inv rfl (fun j hj => st.mark j hj) (fun h => by cases h))
      | 6, ho => (injection ho with ho; subst ho; have x1 : a1.eval (.tmp 47) = u'.V sl sd := st.done 0 47 (hdep ⟨0, .data⟩ (by simp) rfl) rfl; exact AnyOrder.step5_store rfl (AnyOrder.wanted_none rfl) rfl (run_store_uk e6 x1 st.inv.ans.choose_spec.choose_spec.choose_spec) st.inv.put.1 (fun j _ _ => st.inv.put.2))
      | n + 7, ho => exact absurd hin (by omega)
     ·intro y4 hJ4 hM4
      have HQ4 : Hid (UkAt y4 q u' sl sd) := Lib.hid (hM4 6 (by decide) rfl)
      have HR4 := Lib.hid hJ4.an2
      have HF := Lib.hid (hJ4.fin HQ4.out cg 0 (HUA.out _ hJ4.bel))
      clear hJ4 hM4
      simp only [AnyOrder.finK, List.map_cons, List.map_nil, List.take_succ_cons, List.take_zero, List.drop_succ_cons, List.drop_zero, Act.put, List.setIfInBounds_toArray, List.set_cons_zero, List.set_cons_succ]
      go_wp2_with ((with_reducible apply wpList_store_cg (c := cg) (hq := HR4.out)); exact rfl; exact rfl; exact rfl; exact rfl)
      exact bodyPost_ret (results_u3 Tryz.results56 rfl rfl rfl HF.out.1 HF.out.2.1) rfl (by rw [HRES.out]; exact HF.out.2.2)
    ·cases t4
     ·have hnd : ¬ (n < 1 ∨ u.c.get 1 < n ∨ (m ≠ 1 ∧ m ≠ 2)) := fun h => absurd (HD.out.1 h) (by simp)
      have hn1 : 1 ≤ n ∧ n ≤ u.c.get 1 := by omega
      have h14 : u.c.get 1 ≤ 4 := by
       have := (ok_at HOC.out (k := 1) (by decide)).2
       have e : hi 1 = 4 := by decide
       omega
      obtain ⟨i, hi, hc⟩ : ∃ i : Nat, i < 4 ∧ n = (i : Int) + 1 := ⟨(n - 1).toNat, by omega, by omega⟩
      have HRES0 : Hid (setU u n m = ({ u with m := u.m.set (n - 1).toNat m, ml := by rw [List.length_set]; exact u.ml, ix := u.ix + 1 }, ⟨u.ix + 1, zk, n, m⟩, 0)) := Lib.hid (by unfold setU; rw [if_neg (by rw [HIS.out]; decide), if_neg hnd])
      have hti : (n - 1).toNat = i := by omega
      obtain ⟨u', hu'⟩ : ∃ u' : U, ({ u with m := u.m.set i m, ml := by rw [List.length_set]; exact u.ml, ix := u.ix + 1 } : U) = u' := ⟨_, rfl⟩
      obtain ⟨cg, hcg⟩ : ∃ cg : Cg, (⟨u.ix + 1, zk, n, m⟩ : Cg) = cg := ⟨_, rfl⟩
      have HRES : Hid (setU u n m = (u', cg, 0)) := Lib.hid (by rw [HRES0.out, ← hu', ← hcg]; simp only [hti])
      have HCG : Hid ((⟨u.ix + 1, zk, n, m⟩ : Cg) = cg) := Lib.hid hcg
      have HU' : Hid (({ u with m := u.m.set i m, ml := by rw [List.length_set]; exact u.ml, ix := u.ix + 1 } : U) = u') := Lib.hid hu'
      clear hnd hn1 h14 HRES0 hti hu' hcg HD
      subst hc
      have dt : decide (u.ix ≥ 1073741824) = false := decide_eq_false (by have := HOK.out.ix; omega)
      have dt2 : decide (1073741824 ≤ u.ix) = false := decide_eq_false (by have := HOK.out.ix; omega)
      have hw : IntKind.i64.wrap (u.ix + 1) = u.ix + 1 := IntWalk.i64_in _ (by have := HOK.out.ix; omega)
      have hw2 : wrap64 (u.ix + 1) = u.ix + 1 := IntWalk.wrap64_in _ (by have := HOK.out.ix; omega)
      have hi1 : IntKind.i64.wrap ((i : Int) + 1 - 1) = (i : Int) := by rw [IntWalk.i64_in _ (by omega)]; omega
      have b1 : (i : Int) < 4 := by omega
      have b2 : (0 : Int) ≤ (i : Int) := by omega
      go_enter Tryz.func56, Tryz.ntmps56
      go_upto_region 1 with fail
      obtain ⟨W, hW⟩ : ∃ W, ((w.alloc (.cells (u.cells sl sd) 65)).alloc (.cells Z26 65)).alloc (.cells Z11 48) = W := ⟨_, rfl⟩
      rw [hW] at HT HA ⊢; clear hW
      generalize w.heap.size + 1 + 1 = r at HT ⊢
      generalize w.heap.size + 1 = q at HT ⊢
      obtain ⟨g, hg⟩ : ∃ g, w.heap.size = g := ⟨_, rfl⟩
      rw [hg] at HT ⊢; clear hg
      have k18 := UkAt.k18 HT.out.bk
      rw [HIS.out] at k18
      have k1 := UkAt.kn HT.out.bk (j := 1) (by decide)
      have k19 := UkAt.k19 HT.out.bk
      go_upto_region 7 with fail
      clear k1 k19 k18 d1 d2 g2 d3 d4 e3 e4 q3 q4 dt dt2
      have kM := UkAt.kM HT.out.bk hi; have fM := At.frozen HT.out.bk (22 + i)
      go_upto_region 8 with fail
      have HT1 := Lib.hid (HT.out.one (UkAt.setM HT.out.bk hi m))
      obtain ⟨y1, hy1⟩ : ∃ y, W.setCell ⟨g, 22 + i, none⟩ (.int .i64 m) = y := ⟨_, rfl⟩
      rw [hy1] at HT1 ⊢; clear hy1 kM fM HT b1 b2 hi1
      have k19 := UkAt.k19 HT1.out.bk; have f19 := At.frozen HT1.out.bk 19
      go_upto_region 9 with fail
      have HT2 := Lib.hid (HT1.out.one (UkAt.setI HT1.out.bk (u.ix + 1)))
      obtain ⟨y3, hy3⟩ : ∃ y, y1.setCell ⟨g, 19, none⟩ (.int .i64 (u.ix + 1)) = y := ⟨_, rfl⟩
      rw [hy3] at HT2 ⊢; clear hy3 k19 f19 HT1
      have HT3 : Hid (YU w y3 g q r u' sl sd) := Lib.hid (by rw [← HU'.out]; exact HT2.out)
      have HIX : Hid (u'.ix = u.ix + 1) := Lib.hid (by rw [← HU'.out])
      have HUA : Hid (∀ w9, Below w.heap.size w w9 → UAt w9 u' sl sd) := Lib.hid (fun w9 h9 => by rw [← HU'.out]; exact HA0.out.step h9)
      clear HT2 HU'
      obtain ⟨nn, hnn⟩ : ∃ nn : Int, (i : Int) + 1 = nn := ⟨_, rfl⟩
      rw [hnn] at HCG ⊢; clear hnn
      refine AnyOrder.region_put 7 [u'.V sl sd, ptr g 19, .int .i64 (u.ix + 1), .int .i64 nn, .int .i64 m, cg.V, undef] (fun i w1 => i = 6 → UkAt w1 q u' sl sd) (fun w1 => YU w w1 g q r u' sl sd) (by kernel_rfl) (by kernel_rfl) rfl ?_ HT3.out.drew ?_ ?_
      ·intro i hi hd
       match i, hi with
       | 0, _ => cases hd
       | 1, _ => cases hd
       | 2, _ => cases hd
       | 3, _ => cases hd
       | 4, _ => cases hd
       | 5, _ => cases hd
       | 6, _ => rfl
      ·intro i o listed a1 w2 hin ho st hl hdep
       have e1 : a1.eval (.tmp 1) = .int .i64 nn := st.old hl 1 (by kernel_rfl)
       have e2 : a1.eval (.tmp 2) = .int .i64 m := st.old hl 2 (by kernel_rfl)
       have e3 : a1.eval (.tmp 3) = ptr g 0 := st.old hl 3 (by kernel_rfl)
       have e6 : a1.eval (.tmp 6) = ptr q 0 := st.old hl 6 (by kernel_rfl)
       match i, ho with
       | 0, ho => (injection ho with ho; subst ho; exact AnyOrder.step5_value rfl (AnyOrder.wanted_none rfl) (u'.V sl sd) (run_load_uk e3 st.inv.bk) st.inv rfl (fun j hj => st.mark j hj) (fun h => by cases h))
       | 1, ho => (injection ho with ho; subst ho; exact AnyOrder.step5_value rfl (AnyOrder.wanted_none rfl) (ptr g 19) (by generalize a1.eval = ρ at e3 ⊢; simp [execOp, e3, go_sem]) st.inv rfl (fun j hj => st.mark j hj) (fun h => by cases h))
       | 2, ho => (injection ho with ho; subst ho; have ed : a1.eval (.tmp 48) = ptr g 19 := st.done 1 48 (hdep ⟨1, .data⟩ (by simp) rfl) rfl; exact AnyOrder.step5_value rfl (AnyOrder.wanted_none rfl) (.int .i64 (u.ix + 1)) (by have hk := UkAt.k19 st.inv.bk; rw [HIX.out] at hk; generalize a1.eval = ρ at ed ⊢; simp [execOp, ed, go_sem, hk]) st.inv rfl (fun j hj => st.mark j hj) (fun h => by cases h))
       | 3, ho => (injection ho with ho; subst ho; exact AnyOrder.step5_value rfl (AnyOrder.wanted_none rfl) (.int .i64 nn) (AnyOrder.run_move e1) st.inv rfl (fun j hj => st.mark j hj) (fun h => by cases h))
       | 4, ho => (injection ho with ho; subst ho; exact AnyOrder.step5_value rfl (AnyOrder.wanted_none rfl) (.int .i64 m) (AnyOrder.run_move e2) st.inv rfl (fun j hj => st.mark j hj) (fun h => by cases h))
       | 5, ho => (injection ho with ho; subst ho; have x1 : a1.eval (.tmp 49) = .int .i64 (u.ix + 1) := st.done 2 49 (hdep ⟨2, .data⟩ (by simp) rfl) rfl; have x2 : a1.eval (.tmp 50) = .int .i64 nn := st.done 3 50 (hdep ⟨3, .data⟩ (by simp) rfl) rfl; have x3 : a1.eval (.tmp 51) = .int .i64 m := st.done 4 51 (hdep ⟨4, .data⟩ (by simp) rfl) rfl; exact AnyOrder.step5_value rfl (AnyOrder.wanted_none rfl) cg.V (by rw [← HCG.out]; exact run_build_set x1 x2 x3) st.inv rfl (fun j hj => st.mark j hj) (fun h => by cases h))
       | 6, ho => (injection ho with ho; subst ho; have x1 : a1.eval (.tmp 47) = u'.V sl sd := st.done 0 47 (hdep ⟨0, .data⟩ (by simp) rfl) rfl; exact AnyOrder.step5_store rfl (AnyOrder.wanted_none rfl) rfl (run_store_uk e6 x1 st.inv.ans.choose_spec.choose_spec.choose_spec) st.inv.put.1 (fun j _ _ => st.inv.put.2))
       | n + 7, ho => exact absurd hin (by omega)
      ·intro y4 hJ4 hM4
       have HQ4 : Hid (UkAt y4 q u' sl sd) := Lib.hid (hM4 6 (by decide) rfl)
       have HR4 := Lib.hid hJ4.an2
       have HF := Lib.hid (hJ4.fin HQ4.out cg 0 (HUA.out _ hJ4.bel))
       clear hJ4 hM4
       simp only [AnyOrder.finK, List.map_cons, List.map_nil, List.take_succ_cons, List.take_zero, List.drop_succ_cons, List.drop_zero, Act.put, List.setIfInBounds_toArray, List.set_cons_zero, List.set_cons_succ]
       go_wp2_with ((with_reducible apply wpList_store_cg (c := cg) (hq := HR4.out)); exact rfl; exact rfl; exact rfl; exact rfl)
       exact bodyPost_ret (results_u3 Tryz.results56 rfl rfl rfl HF.out.1 HF.out.2.1) rfl (by rw [HRES.out]; exact HF.out.2.2)
     ·have HRES : Hid (setU u n m = (zu, zg, 1)) := Lib.hid (by unfold setU; rw [if_neg (by rw [HIS.out]; decide), if_pos (HD.out.2 rfl)])
      go_enter Tryz.func56, Tryz.ntmps56
      go_upto_region 1 with fail
      obtain ⟨W, hW⟩ : ∃ W, ((w.alloc (.cells (u.cells sl sd) 65)).alloc (.cells Z26 65)).alloc (.cells Z11 48) = W := ⟨_, rfl⟩
      rw [hW] at HT HA ⊢; clear hW
      generalize w.heap.size + 1 + 1 = r at HT ⊢
      generalize w.heap.size + 1 = q at HT ⊢
      obtain ⟨g, hg⟩ : ∃ g, w.heap.size = g := ⟨_, rfl⟩
      rw [hg] at HT ⊢; clear hg
      have k18 := UkAt.k18 HT.out.bk
      rw [HIS.out] at k18
      have k1 := UkAt.kn HT.out.bk (j := 1) (by decide)
      obtain ⟨z9, a9, b9, h1, h2, h3, h4, h5⟩ := HT.out.bad 1
      have HQ := Lib.hid h1; have HR9 := Lib.hid h2; have HF1 := Lib.hid h3; have HF2 := Lib.hid h4; have HF3 := Lib.hid h5; clear h1 h2 h3 h4 h5
      go_wp2_with (first | ((with_reducible apply wpList_build_zu); exact rfl; exact rfl) | ((with_reducible apply wpList_build_zg); exact rfl; exact rfl) | ((with_reducible apply wpList_store_uk (b := zu) (s := s0) (t := s0) (hq := HQ.out)); exact rfl; exact rfl; exact rfl; exact rfl) | ((with_reducible apply wpList_store_cg (c := zg) (hq := HR9.out)); exact rfl; exact rfl; exact rfl; exact rfl))
      exact bodyPost_ret (results_u3 Tryz.results56 rfl rfl rfl HF1.out HF2.out) rfl (by rw [HRES.out]; exact HF3.out)
   ·have HRES : Hid (setU u n m = (zu, zg, 1)) := Lib.hid (by unfold setU; rw [if_neg (by rw [HIS.out]; decide), if_pos (HD.out.2 rfl)])
    go_enter Tryz.func56, Tryz.ntmps56
    go_upto_region 1 with fail
    obtain ⟨W, hW⟩ : ∃ W, ((w.alloc (.cells (u.cells sl sd) 65)).alloc (.cells Z26 65)).alloc (.cells Z11 48) = W := ⟨_, rfl⟩
    rw [hW] at HT HA ⊢; clear hW
    generalize w.heap.size + 1 + 1 = r at HT ⊢
    generalize w.heap.size + 1 = q at HT ⊢
    obtain ⟨g, hg⟩ : ∃ g, w.heap.size = g := ⟨_, rfl⟩
    rw [hg] at HT ⊢; clear hg
    have k18 := UkAt.k18 HT.out.bk
    rw [HIS.out] at k18
    have k1 := UkAt.kn HT.out.bk (j := 1) (by decide)
    obtain ⟨z9, a9, b9, h1, h2, h3, h4, h5⟩ := HT.out.bad 1
    have HQ := Lib.hid h1; have HR9 := Lib.hid h2; have HF1 := Lib.hid h3; have HF2 := Lib.hid h4; have HF3 := Lib.hid h5; clear h1 h2 h3 h4 h5
    go_wp2_with (first | ((with_reducible apply wpList_build_zu); exact rfl; exact rfl) | ((with_reducible apply wpList_build_zg); exact rfl; exact rfl) | ((with_reducible apply wpList_store_uk (b := zu) (s := s0) (t := s0) (hq := HQ.out)); exact rfl; exact rfl; exact rfl; exact rfl) | ((with_reducible apply wpList_store_cg (c := zg) (hq := HR9.out)); exact rfl; exact rfl; exact rfl; exact rfl))
    exact bodyPost_ret (results_u3 Tryz.results56 rfl rfl rfl HF1.out HF2.out) rfl (by rw [HRES.out]; exact HF3.out)
  ·have HRES : Hid (setU u n m = (zu, zg, 1)) := Lib.hid (by unfold setU; rw [if_neg (by rw [HIS.out]; decide), if_pos (HD.out.2 rfl)])
   go_enter Tryz.func56, Tryz.ntmps56
   go_upto_region 1 with fail
   obtain ⟨W, hW⟩ : ∃ W, ((w.alloc (.cells (u.cells sl sd) 65)).alloc (.cells Z26 65)).alloc (.cells Z11 48) = W := ⟨_, rfl⟩
   rw [hW] at HT HA ⊢; clear hW
   generalize w.heap.size + 1 + 1 = r at HT ⊢
   generalize w.heap.size + 1 = q at HT ⊢
   obtain ⟨g, hg⟩ : ∃ g, w.heap.size = g := ⟨_, rfl⟩
   rw [hg] at HT ⊢; clear hg
   have k18 := UkAt.k18 HT.out.bk
   rw [HIS.out] at k18
   have k1 := UkAt.kn HT.out.bk (j := 1) (by decide)
   obtain ⟨z9, a9, b9, h1, h2, h3, h4, h5⟩ := HT.out.bad 1
   have HQ := Lib.hid h1; have HR9 := Lib.hid h2; have HF1 := Lib.hid h3; have HF2 := Lib.hid h4; have HF3 := Lib.hid h5; clear h1 h2 h3 h4 h5
   go_wp2_with (first | ((with_reducible apply wpList_build_zu); exact rfl; exact rfl) | ((with_reducible apply wpList_build_zg); exact rfl; exact rfl) | ((with_reducible apply wpList_store_uk (b := zu) (s := s0) (t := s0) (hq := HQ.out)); exact rfl; exact rfl; exact rfl; exact rfl) | ((with_reducible apply wpList_store_cg (c := zg) (hq := HR9.out)); exact rfl; exact rfl; exact rfl; exact rfl))
   exact bodyPost_ret (results_u3 Tryz.results56 rfl rfl rfl HF1.out HF2.out) rfl (by rw [HRES.out]; exact HF3.out)
end Go.Proofs.YtplapoenhohliaaGreat
