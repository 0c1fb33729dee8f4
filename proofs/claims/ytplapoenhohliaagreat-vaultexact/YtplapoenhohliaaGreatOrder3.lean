import Derived.Test.YtplapoenhohliaaGreatBkD
import Derived.Test.YtplapoenhohliaaGreatMay
import Derived.Test.YtplapoenhohliaaGreatIsb
namespace Go.Proofs.YtplapoenhohliaaGreat
open Go.RowKit Go.Lib
open Sh.Plain (KV get put del Rise)
set_option linter.unusedVariables false
set_option linter.unusedSimpArgs false
def seek (k : Int) (l : List KV) : Option K := (l.find? (fun q => q.2.id == k)).map (·.2)
def findB (b : Bk) (k : Int) : Option K := match get k b.live with
 | some x => some x
 | none => seek k b.done
theorem seek_hit {k : Int} : ∀ {l : List KV} {j : Nat} {x : KV}, l[j]? = some x → x.2.id = k → (∀ i, i < j → ∀ y, l[i]? = some y → y.2.id ≠ k) → seek k l = some x.2
 | [], j, x, h, _, _ => by simp at h
 | y :: l, 0, x, h, hk, _ => by
  have : y = x := by simpa using h
  subst this
  simp [seek, List.find?, hk]
 | y :: l, j + 1, x, h, hk, hn => by
  have h0 := hn 0 (by omega) y rfl
  have ih := seek_hit (l := l) (j := j) (x := x) (by simpa using h) hk (fun i hi z hz => hn (i + 1) (by omega) z (by simpa using hz))
  unfold seek at ih ⊢
  rw [List.find?_cons_of_neg (by simpa using h0)]
  exact ih
theorem seek_none {k : Int} {l : List KV} (h : ∀ (i : Nat) (y : KV), l[i]? = some y → y.2.id ≠ k) : seek k l = none := by
 unfold seek
 rw [List.find?_eq_none.2 (fun y hy => by
  obtain ⟨i, hi, rfl⟩ := List.getElem_of_mem hy
  simpa using h i _ (List.getElem?_eq_getElem hi))]
 rfl
def FPost (w : World) (r : Option K) (e : Ending) (w' : World) : Prop := e = .returned (.tuple #[(r.getD zk).V, .bool r.isSome]) ∧ Below w.heap.size w w'
structure FSt (w wx : World) (B : Nat) (sv : Value) (ps : List KV) (q : Nat) : Prop where
 src : Sh.Own Sh.eK wx B sv ps
 bel : Below w.heap.size w wx
 ans : KAt wx q zk
 lo : w.heap.size ≤ q
theorem FSt.step {w wx wy : World} {B : Nat} {sv : Value} {ps : List KV} {q : Nat} (h : FSt w wx B sv ps q) (hb : Below wx.heap.size wx wy) : FSt w wy B sv ps q := ⟨h.src.below hb, h.bel.trans (hb.mono h.bel.size), At.step h.ans hb, h.lo⟩
theorem own_cell {wx : World} {B j : Nat} {sv : Value} {ps : List KV} (h : Sh.Own Sh.eK wx B sv ps) (hj : j < ps.length) :
  ∃ g cap x, sv = .slice (some ⟨g, 0, none⟩) ps.length cap ∧ ps[j]? = some x ∧ wx.rangeAt g (j * 9) (Sh.pc x).toList := by
 have hx : ps[j]? = some ps[j] := List.getElem?_eq_getElem hj
 rcases h.form with ⟨rfl, h0⟩ | ⟨g, cap, rfl, hc, _, _⟩
 ·subst h0; simp at hj
 ·obtain ⟨O, cap', e, _, k⟩ := h.rd
  obtain ⟨b, off, e2, _, k2⟩ := k j _ hx
  injection e with e e3 e4
  rw [e2] at e
  injection e with e
  injection e with e5 e6
  subst e5; subst e6
  exact ⟨g, cap, ps[j], rfl, hx, fun i u hu => by
   have := k2 i u hu
   rwa [Nat.zero_add] at this⟩
theorem own_len {wx : World} {B : Nat} {sv : Value} {ps : List KV} (h : Sh.Own Sh.eK wx B sv ps) : ∃ O cap, sv = .slice O ps.length cap := by
 rcases h.form with ⟨rfl, h0⟩ | ⟨g, cap, rfl, hc, _, _⟩
 ·subst h0; exact ⟨_, _, rfl⟩
 ·exact ⟨_, _, rfl⟩
set_option maxRecDepth 100000 in
set_option maxHeartbeats 1600000 in
theorem find_live {b : Bk} {o p : Option Addr} {k : Int} {x : K} {w : World} (hb : BAt w b o p) (hx : get k b.live = some x) : Calls Tryz.prog 36 #[b.V o p, .int .i64 k] w (FPost w (some x)) := by
 have H := Lib.hid (new2 w (b.cells o p) zk.cells 37 46)
 have CG0 := Sh.get_any k (hb.step H.out.1).1
 rw [hx] at CG0
 have CG := Lib.hid CG0; clear hb hx CG0
 go_enter Tryz.func36, Tryz.ntmps36
 go_upto_region 1 with fail
 obtain ⟨W, hW⟩ : ∃ W, (w.alloc (.cells (b.cells o p) 37)).alloc (.cells Z8 46) = W := ⟨_, rfl⟩
 have hZ : (w.alloc (.cells (b.cells o p) 37)).alloc (.cells zk.cells 46) = W := hW
 rw [hZ] at H CG; rw [hW]; clear hW hZ
 have k0 := BkAt.k19 H.out.2.1; have k1 := BkAt.k20 H.out.2.1; have k2 := BkAt.k21 H.out.2.1
 have lo : w.heap.size ≤ w.heap.size + 1 := by omega
 have H1 := Lib.hid H.out.1; have H3 : Hid (KAt W (w.heap.size + 1) zk) := Lib.hid H.out.2.2
 clear H
 generalize w.heap.size + 1 = q at *
 go_upto_region 2 with (first | (go_at_call 53; (with_reducible refine CG.out.mono ?_); rintro e w1 ⟨rfl, hb1⟩) | ((with_reducible apply wpList_store_knew (c := x)); exact rfl; exact rfl; exact rfl; exact rfl))
 have b2 : Below W.heap.size W (w1.alloc (.cells x.cells 46)) := hb1.trans ((below_new _ _).mono hb1.size)
 have hx1 := At.new w1 46 x.cells
 obtain ⟨w2, hw2⟩ : ∃ w2, w1.alloc (.cells x.cells 46) = w2 := ⟨_, rfl⟩
 rw [hw2] at b2 hx1 ⊢; clear hw2
 have HX : Hid (KAt w2 w1.heap.size x) := Lib.hid hx1
 have HQ : Hid (KAt w2 q zk) := Lib.hid (At.step H3.out b2)
 have HB := Lib.hid (H1.out.trans (b2.mono H1.out.size))
 clear b2 hx1 hb1 H1 H3 CG k0 k1 k2
 go_wp2_with (first | ((with_reducible apply wpList_load_kat (h := HX.out)); exact rfl; exact rfl; exact rfl) | ((with_reducible apply wpList_store_kat (c := x) (hq := HQ.out)); exact rfl; exact rfl; exact rfl; exact rfl))
 exact bodyPost_ret (results_pair Tryz.results36 rfl rfl (KAt.setRow HQ.out x)) rfl ⟨rfl, setRow_below HB.out lo _⟩
set_option maxRecDepth 100000 in
set_option maxHeartbeats 1600000 in
theorem find_done {b : Bk} {o p : Option Addr} {k : Int} {w : World} (hb : BAt w b o p) (hx : get k b.live = none) : Calls Tryz.prog 36 #[b.V o p, .int .i64 k] w (FPost w (seek k b.done)) := by
 have H := Lib.hid (new2 w (b.cells o p) zk.cells 37 46)
 have CG0 := Sh.get_any k (hb.step H.out.1).1
 rw [hx] at CG0
 have CG := Lib.hid CG0
 have hl := hb.2.le
 have HB0 := Lib.hid (hb.step H.out.1).2; have HLE : Hid (b.done.length ≤ 65536) := Lib.hid (by omega)
 clear hb hx CG0 hl
 go_enter Tryz.func36, Tryz.ntmps36
 go_upto_region 1 with fail
 obtain ⟨W, hW⟩ : ∃ W, (w.alloc (.cells (b.cells o p) 37)).alloc (.cells Z8 46) = W := ⟨_, rfl⟩
 have hZ : (w.alloc (.cells (b.cells o p) 37)).alloc (.cells zk.cells 46) = W := hW
 rw [hZ] at H CG HB0; rw [hW]; clear hW hZ
 have k0 := BkAt.k19 H.out.2.1; have k1 := BkAt.k20 H.out.2.1; have k2 := BkAt.k21 H.out.2.1
 have lo : w.heap.size ≤ w.heap.size + 1 := by omega
 have H1 := Lib.hid H.out.1; have H2 := Lib.hid H.out.2.1; have H3 : Hid (KAt W (w.heap.size + 1) zk) := Lib.hid H.out.2.2
 clear H
 generalize w.heap.size + 1 = q at *
 go_upto_region 2 with (first | (go_at_call 53; (with_reducible refine CG.out.mono ?_); rintro e w1 ⟨rfl, hb1⟩) | ((with_reducible apply wpList_store_knew (c := zk)); exact rfl; exact rfl; exact rfl; exact rfl))
 have b2 : Below W.heap.size W (w1.alloc (.cells zk.cells 46)) := hb1.trans ((below_new _ _).mono hb1.size)
 obtain ⟨w2, hw2⟩ : ∃ w2, w1.alloc (.cells zk.cells 46) = w2 := ⟨_, rfl⟩
 rw [hw2] at b2 ⊢; clear hw2
 have HQ : Hid (KAt w2 q zk) := Lib.hid (At.step H3.out b2)
 have HB := Lib.hid (H1.out.trans (b2.mono H1.out.size))
 have HG := At.step H2.out b2
 have CL := Lib.hid (Sh.List_any (HB0.out.step b2))
 clear b2 hb1 H1 H2 H3 HB0 CG k0 k1 k2
 have k0 := BkAt.k22 HG; have k1 := BkAt.k23 HG; have k2 := BkAt.k24 HG
 clear HG
 go_wp2_with fail
 refine CL.out.mono ?_
 rintro e w3 ⟨sv', rfl, o3, b3⟩
 have hst : FSt w w3 w2.heap.size sv' b.done q := ⟨o3, HB.out.trans (b3.mono HB.out.size), At.step HQ.out b3, lo⟩
 generalize w2.heap.size = B at *
 obtain ⟨O, cap, rfl⟩ := own_len o3
 have HST := Lib.hid hst; clear hst CL k0 k1 k2 o3 b3 HB HQ
 generalize b.done = l at *
 obtain ⟨n, hn⟩ : ∃ n, n = l.length := ⟨_, rfl⟩
 rw [← hn] at HST HLE ⊢
 have HNN := Lib.hid hn; clear hn
 go_wp2_with fail
 go_loopg [23] n (fun gh s23 wx => ∃ (j : Nat), j ≤ n ∧ gh = n - j ∧ s23 = .int .i64 (j : Int) ∧ FSt w wx B (.slice O n cap) l q ∧ ∀ i, i < j → ∀ y, l[i]? = some y → y.2.id ≠ k)
 case atStart => exact ⟨0, Nat.zero_le _, rfl, rfl, HST.out, fun i hi => absurd hi (by omega)⟩
 case round =>
  obtain ⟨j, hj, hg, rfl, hst, hno⟩ := hrel
  have HG := Lib.hid hg; have HNO := Lib.hid hno; clear hg HST hno
  by_cases hlt : j < n
  ·obtain ⟨g, cap', x, hsv, hpx, hr9⟩ := own_cell hst.src (j := j) (by rw [← HNN.out]; exact hlt)
   rw [← HNN.out] at hsv
   injection hsv with e1 _ e3
   subst e1; subst e3
   have b5 := below_new wr (.cells (Sh.pc x) 119)
   have hp5 := At.new wr 119 (Sh.pc x)
   have HPX := Lib.hid hpx; have H9 := Lib.hid hr9
   have b3 : (j : Int) < (n : Int) := by omega
   have b4 : (0 : Int) ≤ (j : Int) := by omega
   clear hr9 hpx
   go_upto_region 7 with (first | ((with_reducible apply wpList_load_pr (c := x) (h := H9.out)); exact rfl; exact rfl; exact rfl) | ((with_reducible apply wpList_store_prnew (c := x)); exact rfl; exact rfl; exact rfl; exact rfl))
   obtain ⟨W5, hW5⟩ : ∃ W5, wr.alloc (.cells (Sh.pc x) 119) = W5 := ⟨_, rfl⟩
   rw [hW5] at b5 hp5 ⊢; clear hW5
   have HST5 := Lib.hid (hst.step b5); clear hst b5
   have HP := Lib.hid (PrAt.kk hp5)
   have kid := Sh.PAt.kid (x := x) hp5
   clear hp5
   by_cases hk : x.2.id = k
   ·have d1 : decide (x.2.id = k) = true := by simpa using hk
    have d2 : (x.2.id == k) = true := by simpa using hk
    have HQ := Lib.hid HST5.out.ans; have HK := Lib.hid hk; clear hk
    go_wp2_with (first | ((with_reducible apply wpList_load_kpart (c := x.2) (h := HP.out)); exact rfl; exact rfl; exact rfl) | ((with_reducible apply wpList_store_kat (c := x.2) (hq := HQ.out)); exact rfl; exact rfl; exact rfl; exact rfl))
    refine bodyPost_ret (results_pair Tryz.results36 rfl rfl (KAt.setRow HQ.out x.2)) rfl ⟨?_, setRow_below HST5.out.bel HST5.out.lo _⟩
    rw [seek_hit HPX.out HK.out HNO.out]; rfl
   ·have d1 : decide (x.2.id = k) = false := by simpa using hk
    have d2 : (x.2.id == k) = false := by simpa using hk
    have HK := Lib.hid hk; clear hk
    go_wp2_with fail
    go_roundg (n - (j + 1))
    case measure => have := HG.out; omega
    case rel => exact ⟨j + 1, by omega, rfl, (by have := HLE.out; have := HNN.out; rw [IntWalk.wrap64_in _ (by omega)]; rfl), HST5.out, fun i hi y hy => by
     by_cases hij : i < j
     ·exact HNO.out i hij y hy
     ·obtain rfl : i = j := by omega
      rw [HPX.out] at hy
      injection hy with hy
      subst hy
      exact HK.out⟩
  ·obtain rfl : j = n := by omega
   have HST2 := Lib.hid hst; clear hst
   have HQ := Lib.hid HST2.out.ans
   go_wp2_with (first | ((with_reducible apply wpList_build_zk); exact rfl; exact rfl) | ((with_reducible apply wpList_store_kat (c := zk) (hq := HQ.out)); exact rfl; exact rfl; exact rfl; exact rfl))
   refine bodyPost_ret (results_pair Tryz.results36 rfl rfl (KAt.setRow HQ.out zk)) rfl ⟨?_, setRow_below HST2.out.bel HST2.out.lo _⟩
   rw [seek_none (fun i y hy => HNO.out i (by have := (List.getElem?_eq_some_iff.1 hy).1; have := HNN.out; omega) y hy)]; rfl
theorem findB_any {b : Bk} {o p : Option Addr} (k : Int) {w : World} (hb : BAt w b o p) : Calls Tryz.prog 36 #[b.V o p, .int .i64 k] w (FPost w (findB b k)) := by
 unfold findB
 cases hx : get k b.live with
 | some x => exact find_live hb hx
 | none => exact find_done hb hx
end Go.Proofs.YtplapoenhohliaaGreat
namespace Go.Proofs.YtplapoenhohliaaGreat
open Go.RowKit Go.Lib
set_option linter.unusedVariables false
set_option linter.unusedSimpArgs false
def livesK (x : K) : Bool := decide (x.st = 1 ∨ x.st = 2 ∨ x.st = 3)
set_option maxRecDepth 100000 in
set_option maxHeartbeats 2000000 in
theorem lives_any (x : K) (w : World) : Calls Tryz.prog 84 #[x.V] w (Yes w (livesK x)) := by
 have HA := Lib.hid (KAt.new w x); have HB := Lib.hid (below_new w (.cells x.cells 46))
 by_cases h1 : x.st = 1
 ·have d1 : decide (x.st = 1) = true := (by simpa using h1); have n1 : (x.st != 1) = false := (by simpa using h1); have q1 : (x.st == 1) = true := (by simpa using h1)
  have HR : Hid (livesK x = true) := Lib.hid (by simp [livesK, h1])
  go_enter Tryz.func84, Tryz.ntmps84
  go_upto_region 1 with fail
  obtain ⟨W, hW⟩ : ∃ W, w.alloc (.cells x.cells 46) = W := ⟨_, rfl⟩
  rw [hW] at HA HB ⊢; clear hW
  generalize w.heap.size = p at HA ⊢
  have k1 := HA.out.get1; have k2 := HA.out.get2; have k3 := HA.out.get3; have k5 := HA.out.get5
  go_wp2_with fail
  go_ret
  exact ⟨ret_bool HR.out.symm, HB.out⟩
 ·have d1 : decide (x.st = 1) = false := (by simpa using h1); have n1 : (x.st != 1) = true := (by simpa using h1); have q1 : (x.st == 1) = false := (by simpa using h1)
  by_cases h2 : x.st = 2
  ·have d2 : decide (x.st = 2) = true := (by simpa using h2); have n2 : (x.st != 2) = false := (by simpa using h2); have q2 : (x.st == 2) = true := (by simpa using h2)
   have HR : Hid (livesK x = true) := Lib.hid (by simp [livesK, h2])
   go_enter Tryz.func84, Tryz.ntmps84
   go_upto_region 1 with fail
   obtain ⟨W, hW⟩ : ∃ W, w.alloc (.cells x.cells 46) = W := ⟨_, rfl⟩
   rw [hW] at HA HB ⊢; clear hW
   generalize w.heap.size = p at HA ⊢
   have k1 := HA.out.get1; have k2 := HA.out.get2; have k3 := HA.out.get3; have k5 := HA.out.get5
   go_wp2_with fail
   go_ret
   exact ⟨ret_bool HR.out.symm, HB.out⟩
  ·have d2 : decide (x.st = 2) = false := (by simpa using h2); have n2 : (x.st != 2) = true := (by simpa using h2); have q2 : (x.st == 2) = false := (by simpa using h2)
   by_cases h3 : x.st = 3
   ·have d3 : decide (x.st = 3) = true := (by simpa using h3); have n3 : (x.st != 3) = false := (by simpa using h3); have q3 : (x.st == 3) = true := (by simpa using h3)
    have HR : Hid (livesK x = true) := Lib.hid (by simp [livesK, h3])
    go_enter Tryz.func84, Tryz.ntmps84
    go_upto_region 1 with fail
    obtain ⟨W, hW⟩ : ∃ W, w.alloc (.cells x.cells 46) = W := ⟨_, rfl⟩
    rw [hW] at HA HB ⊢; clear hW
    generalize w.heap.size = p at HA ⊢
    have k1 := HA.out.get1; have k2 := HA.out.get2; have k3 := HA.out.get3; have k5 := HA.out.get5
    go_wp2_with fail
    go_ret
    exact ⟨ret_bool HR.out.symm, HB.out⟩
   ·have d3 : decide (x.st = 3) = false := (by simpa using h3); have n3 : (x.st != 3) = true := (by simpa using h3); have q3 : (x.st == 3) = false := (by simpa using h3)
    have HR : Hid (livesK x = false) := Lib.hid (by simp [livesK, h1, h2, h3])
    go_enter Tryz.func84, Tryz.ntmps84
    go_upto_region 1 with fail
    obtain ⟨W, hW⟩ : ∃ W, w.alloc (.cells x.cells 46) = W := ⟨_, rfl⟩
    rw [hW] at HA HB ⊢; clear hW
    generalize w.heap.size = p at HA ⊢
    have k1 := HA.out.get1; have k2 := HA.out.get2; have k3 := HA.out.get3; have k5 := HA.out.get5
    go_wp2_with fail
    go_ret
    exact ⟨ret_bool HR.out.symm, HB.out⟩
end Go.Proofs.YtplapoenhohliaaGreat
namespace Go.Proofs.YtplapoenhohliaaGreat.AnyOrder
open Go Go.RowKit
set_option linter.unnecessarySimpa false
set_option linter.unusedSimpArgs false
set_option linter.unusedVariables false
section
variable {P : Program} {ops : Array Oper} {Q : Exit → Act → World → Prop} {J : World → Prop} {a0 : Act} {ks : List Kind}
theorem region_store2 {id : Nat} {w : World} (n : Nat) (ks : List Kind) (J : World → Prop) (f df x y : Nat) (ty : TypeId) (vf : Value) (of os : Oper) (hm : P.follows .mixedOrders = true)
  (hf : fits2 ops n a0.tmps.size (some f) = true) (hk : ks.length = n) (hd : (ops.toList.take n).all (fun o => o.dst.isSome) = true)
  (hof : ops[f]? = some of) (hos : ops[n]? = some os) (hfn : f < n) (hgf : of.guard = none) (hgs : os.guard = none) (hdf : of.dst = some df) (hds : os.dst = none) (hop : os.op = .store ty (.tmp x) (.tmp y)) (hxy : df ≠ x ∧ df ≠ y)
  (hkf : ks[f]? = some (.eq vf)) (hrun : ∀ (a : Act) (w w1 : World), J w → (∀ i d, i < n → i ≠ f → dstOf ops i = some d → (kindAt ks i).holds (a.eval (.tmp d)) w) → (∀ t, (∀ i, i < n → dstOf ops i ≠ some t) → a.eval (.tmp t) = a0.eval (.tmp t)) →
   (execOp a.eval os).run P w = .ok .skip w1 → (execOp a.eval of).run P w1 = .ok (.value vf) w1)
  (start : J w.drew)
  (keep : ∀ p w w', (Kind.of p) ∈ ks → J w → Below w.heap.size w w' → ∀ v, p v w → p v w')
  (step : ∀ (i : Nat) (o : Oper) (listed : Nat → Bool) (a : Act) (w : World), i < n → ops[i]? = some o → StK ops ks J a0 listed a w → (∀ j, listed j = true → j < n) → (∀ e ∈ o.after, Region.binds .any e = true → listed e.on = true) →
   wpOp P ops Q i (Post ks J i o a w) a w)
  (fin : ∀ w, J w → finK w (fun a => ∃ w1, (execOp a.eval os).run P w = .ok .skip w1 ∧ wpList P ops Q (ops.toList.drop (n + 1)) a w1) ks (ops.toList.take n) a0) : (Code.region id ops true).wp P Q a0 w := by
 have hF := fits2_spec hf
 have hle := hF.le
 obtain ⟨hx, hy⟩ := hxy
 have hnl : n < ops.size := (Array.getElem?_eq_some_iff.1 hos).1
 have hos' : ops[n] = os := (Array.getElem?_eq_some_iff.1 hos).2
 have wanted : ∀ (o : Oper) (y : Nat → Option Bool), o.guard = none → Region.wanted o y = true := fun o y h => by simp [Region.wanted, h]
 have hkind : ∀ (i : Nat) (u v : Value) (w : World), ks[i]? = some (.eq u) → (kindAt ks i).holds v w → v = u := by
  intro i u v w h hh
  unfold kindAt at hh; rw [h] at hh; exact hh
 refine wp_region_any hm (wpAny_inv2 (n := n) (f := some f) (V := fun i v w => (kindAt ks i).holds v w) (J := J) (G := fun x y => J x ∧ Below x.heap.size x y) hF (fun i v x y hv h => kinds_mono keep i v x y hv h) ?_ ?_ ?_ ops.size _ a0 _ (by simp) (by simp) ?_ (start_st start))
 ·intro i o listed a w hin ho st hl hdep
  exact wpOp_mono (fun a' w' ⟨v, h1, h2, h3, h4⟩ => ⟨v, h1, h2, ⟨st.inv, h3⟩, h4⟩) (step i o listed a w hin ho st hl hdep)
 ·intro a w st
  obtain ⟨w1, h1, h2⟩ := fin_all (R := fun a w => ∃ w1, (execOp a.eval os).run P w = .ok .skip w1 ∧ wpList P ops Q (ops.toList.drop (n + 1)) a w1) hF hk hd fin a w st
  have hcons : ops.toList.drop n = os :: ops.toList.drop (n + 1) := by
   rw [List.drop_eq_getElem_cons (by simpa using hnl)]; simp [hos']
  rw [hcons]
  unfold wpList
  rw [if_pos (wanted _ _ hgs)]
  refine .inl ?_
  unfold Oper.wp
  rw [h1, Oper.upon_skip, hds]
  exact h2
 ·intro i a w hi hin _ st
  injection hi with hi
  subst hi
  have hb : ∀ j, (butOne ops n f).getD j false = (decide (j < n) && !decide (j = f)) := by
   intro j
   unfold butOne
   rw [Array.getD_eq_getD_getElem?, Array.getElem?_setIfInBounds, upTo_size]
   by_cases hj : j < ops.size
   ·rw [upTo_get hj]
    by_cases e : f = j
    ·subst e; simp [show f < ops.size by omega]
    ·simp [e, Ne.symm e]
   ·rw [Array.getElem?_eq_none (by rw [upTo_size]; omega)]
    by_cases e : f = j
    ·subst e; omega
    ·simp [e, show ¬ j < n by omega]
  have hin' : ∀ i, (butOne ops n f).getD i false = true → i < n := fun j hj => by rw [hb] at hj; simp at hj; exact hj.1
  have her : ∀ i d, i < n → i ≠ f → dstOf ops i = some d → (kindAt ks i).holds (a.eval (.tmp d)) w := fun i d hi hif hd => by
   refine st.done i d ?_ hd
   show (butOne ops n f).getD i false = true
   rw [hb]; simp [hi, hif]
  have hol : ∀ t, (∀ i, i < n → dstOf ops i ≠ some t) → a.eval (.tmp t) = a0.eval (.tmp t) := fun t ht => st.rest t fun i hi => ht i (hin' i hi)
  have st2 := st.put2 hF (fun j hj => by have hj' : (butOne ops n f).getD j false = true := hj; rw [hb] at hj'; simp at hj'; exact hj'.1) (mono := fun _ _ h => h) hfn hof vf st.inv (fun d hd => by
   show (kindAt ks f).holds vf w
   unfold kindAt; rw [hkf]; rfl)
  have e2 : (fun j => if j = f then true else (butOne ops n f).getD j false) = fun j => decide (j < n) := by
   funext j
   rw [hb]
   by_cases e : j = f
   ·subst e; simp [hfn]
   ·simp [e]
  rw [e2] at st2
  obtain ⟨w1, h1, h2⟩ := fin_all (R := fun a w => ∃ w1, (execOp a.eval os).run P w = .ok .skip w1 ∧ wpList P ops Q (ops.toList.drop (n + 1)) a w1) hF hk hd fin _ w st2
  have hex : execOp (a.put of.dst vf).eval os = execOp a.eval os := by
   unfold execOp
   simp only [hop, hdf]
   rw [eval_put_other a df x vf hx, eval_put_other a df y vf hy]
  rw [hex] at h1
  unfold wpOp
  simp only [hos, wanted _ _ hgs, if_true]
  refine .inl ?_
  unfold Oper.wp
  rw [h1, Oper.upon_skip, hds]
  show wpAny P .any ops Q (ops.size - n) ((butOne ops n f).setIfInBounds n true) a w1
  obtain ⟨m, hm⟩ : ∃ m, ops.size - n = m + 1 := ⟨ops.size - n - 1, by omega⟩
  rw [hm]
  have hg : ∀ j, j < ops.size → ((butOne ops n f).setIfInBounds n true)[j]? = some (decide (j < n + 1) && !decide (j = f)) := by
   intro j hj
   have h3 := hb j
   rw [Array.getD_eq_getD_getElem?] at h3
   rw [Array.getElem?_setIfInBounds]
   have hsz : (butOne ops n f).size = ops.size := by unfold butOne; rw [Array.size_setIfInBounds, upTo_size]
   by_cases e : n = j
   ·subst e; simp [hsz, hj, show n ≠ f by omega]
   ·rw [if_neg e]
    have hq : (butOne ops n f)[j]? = some (butOne ops n f)[j] := Array.getElem?_eq_getElem (by omega)
    rw [hq] at h3 ⊢
    congr 1
    have h4 : (butOne ops n f)[j] = (decide (j < n) && !decide (j = f)) := h3
    rw [h4]
    congr 1
    exact decide_eq_decide.2 (by omega)
  refine ⟨fun hr => ?_, fun i hi => ?_⟩
  ·exfalso
   have hno : f ∉ Region.ready .any ops ((butOne ops n f).setIfInBounds n true) := by rw [hr]; simp
   apply hno
   rw [mem_ready]
   refine ⟨?_, of, hof, fun e he hbb => ?_⟩
   ·rw [Array.getD_eq_getD_getElem?, hg f (by omega)]; simp
   ·have := hF.back f of hof e he hbb
    rw [Array.getD_eq_getD_getElem?, hg e.on (by omega)]; simp; omega
  ·rw [mem_ready] at hi
   obtain ⟨hl, o, ho, hdep⟩ := hi
   have hil := (Array.getElem?_eq_some_iff.1 ho).1
   rw [Array.getD_eq_getD_getElem?, hg i hil] at hl
   have hif : i = f := by
    apply Decidable.byContradiction
    intro hne
    simp [hne] at hl
    rcases hF.tail i o f (by omega) (by omega) ho with ⟨h3, _⟩ | ⟨e, he, hbb, rfl⟩
    ·omega
    ·have := hdep e he hbb
     rw [Array.getD_eq_getD_getElem?, hg e.on (by omega)] at this
     simp at this
   subst hif
   rw [hof] at ho
   injection ho with ho
   subst ho
   unfold wpOp
   simp only [hof, wanted _ _ hgf, if_true]
   refine .inl ?_
   unfold Oper.wp
   rw [hrun a w w1 st.inv her hol h1, Oper.upon_value]
   have hset : ((butOne ops n i).setIfInBounds n true).setIfInBounds i true = upTo ops (n + 1) := by
    apply Array.ext_getElem?
    intro k
    rw [Array.getElem?_setIfInBounds]
    have hsz : ((butOne ops n i).setIfInBounds n true).size = ops.size := by unfold butOne; rw [Array.size_setIfInBounds, Array.size_setIfInBounds, upTo_size]
    by_cases hk2 : k < ops.size
    ·rw [upTo_get hk2, hg k hk2]
     by_cases e : i = k
     ·subst e; simp [hsz, hk2]; omega
     ·simp [e, Ne.symm e]
    ·rw [Array.getElem?_eq_none (by omega), Array.getElem?_eq_none (by rw [upTo_size]; omega)]
     by_cases e : i = k
     ·subst e; omega
     ·simp [e]
   rw [hset]
   exact wpAny_tail2 hF m (n + 1) _ w1 (by omega) (by omega) h2
 ·intro i hi
  have : (Array.replicate ops.size false).getD i false = false := by
   by_cases hi : i < ops.size <;> simp [Array.getD_eq_getD_getElem?, hi]
  rw [this] at hi; cases hi
end
theorem old_of {ops : Array Oper} {a a0 : Act} {n : Nat} (hr : ∀ t, (∀ i, i < n → dstOf ops i ≠ some t) → a.eval (.tmp t) = a0.eval (.tmp t)) (t : Tmp) (h : (List.range n).all (fun i => !(dstOf ops i == some t)) = true) : a.eval (.tmp t) = a0.eval (.tmp t) :=
 hr t fun i hi e => by
  have := List.all_eq_true.mp h i (List.mem_range.mpr hi)
  rw [e] at this
  simp at this
end Go.Proofs.YtplapoenhohliaaGreat.AnyOrder
