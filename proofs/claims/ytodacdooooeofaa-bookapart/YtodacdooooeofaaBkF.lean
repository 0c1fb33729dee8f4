/- Find. -/
import Derived.Test.YtodacdooooeofaaBkD
namespace Go.Proofs.Ytodacdooooeofaa
open Go.RowKit Go.Lib
open Sh.Plain (KV get put del Rise)
set_option linter.unusedVariables false
set_option linter.unusedSimpArgs false

def seek (k : Int) (l : List KV) : Option K := (l.find? (fun q => q.2.id == k)).map (·.2)
def findB (b : Bk) (k : Int) : Option K := match get k b.live with
  | some x => some x
  | none => seek k b.done
theorem seek_hit {k : Int} : ∀ {l : List KV} {j : Nat} {x : KV}, l[j]? = some x → x.2.id = k → (∀ i, i < j → ∀ y, l[i]? = some y → y.2.id ≠ k) → seek k l = some x.2
  | [], j, x, h, _, _ => by simp at h
  | y :: l, 0, x, h, hk, _ => by
    have : y = x := by simpa using h
    subst this
    simp [seek, List.find?, hk]
  | y :: l, j + 1, x, h, hk, hn => by
    have h0 := hn 0 (by omega) y rfl
    have ih := seek_hit (l := l) (j := j) (x := x) (by simpa using h) hk (fun i hi z hz => hn (i + 1) (by omega) z (by simpa using hz))
    unfold seek at ih ⊢
    rw [List.find?_cons_of_neg (by simpa using h0)]
    exact ih
theorem seek_none {k : Int} {l : List KV} (h : ∀ (i : Nat) (y : KV), l[i]? = some y → y.2.id ≠ k) : seek k l = none := by
  unfold seek
  rw [List.find?_eq_none.2 (fun y hy => by
    obtain ⟨i, hi, rfl⟩ := List.getElem_of_mem hy
    simpa using h i _ (List.getElem?_eq_getElem hi))]
  rfl
/-- what Find answers -/
def FPost (w : World) (r : Option K) (e : Ending) (w' : World) : Prop := e = .returned (.tuple #[(r.getD zk).V, .bool r.isSome]) ∧ Below w.heap.size w w'
/-- the state in Find's loop -/
structure FSt (w wx : World) (B : Nat) (sv : Value) (ps : List KV) (q : Nat) : Prop where
  src : Sh.Own Sh.eK wx B sv ps
  bel : Below w.heap.size w wx
  ans : KAt wx q zk
  lo : w.heap.size ≤ q
theorem FSt.step {w wx wy : World} {B : Nat} {sv : Value} {ps : List KV} {q : Nat} (h : FSt w wx B sv ps q) (hb : Below wx.heap.size wx wy) : FSt w wy B sv ps q := ⟨h.src.below hb, h.bel.trans (hb.mono h.bel.size), At.step h.ans hb, h.lo⟩
theorem own_cell {wx : World} {B j : Nat} {sv : Value} {ps : List KV} (h : Sh.Own Sh.eK wx B sv ps) (hj : j < ps.length) :
    ∃ g cap x, sv = .slice (some ⟨g, 0, none⟩) ps.length cap ∧ ps[j]? = some x ∧ wx.rangeAt g (j * 9) (Sh.pc x).toList := by
  have hx : ps[j]? = some ps[j] := List.getElem?_eq_getElem hj
  rcases h.form with ⟨rfl, h0⟩ | ⟨g, cap, rfl, hc, _, _⟩
  · subst h0; simp at hj
  · obtain ⟨O, cap', e, _, k⟩ := h.rd
    obtain ⟨b, off, e2, _, k2⟩ := k j _ hx
    injection e with e e3 e4
    rw [e2] at e
    injection e with e
    injection e with e5 e6
    subst e5; subst e6
    exact ⟨g, cap, ps[j], rfl, hx, fun i u hu => by
      have := k2 i u hu
      rwa [Nat.zero_add] at this⟩
theorem own_len {wx : World} {B : Nat} {sv : Value} {ps : List KV} (h : Sh.Own Sh.eK wx B sv ps) : ∃ O cap, sv = .slice O ps.length cap := by
  rcases h.form with ⟨rfl, h0⟩ | ⟨g, cap, rfl, hc, _, _⟩
  · subst h0; exact ⟨_, _, rfl⟩
  · exact ⟨_, _, rfl⟩
set_option maxRecDepth 100000 in
set_option maxHeartbeats 1600000 in
theorem find_live {b : Bk} {o p : Option Addr} {k : Int} {x : K} {w : World} (hb : BAt w b o p) (hx : get k b.live = some x) : Calls Try.prog 16 #[b.V o p, .int .i64 k] w (FPost w (some x)) := by
  have H := Lib.hid (new2 w (b.cells o p) zk.cells 32 37)
  have CG0 := Sh.get_any k (hb.step H.out.1).1
  rw [hx] at CG0
  have CG := Lib.hid CG0; clear hb hx CG0
  go_enter Try.func16, Try.ntmps16
  go_upto_region 1 with fail
  obtain ⟨W, hW⟩ : ∃ W, (w.alloc (.cells (b.cells o p) 32)).alloc (.cells Z8 37) = W := ⟨_, rfl⟩
  have hZ : (w.alloc (.cells (b.cells o p) 32)).alloc (.cells zk.cells 37) = W := hW
  rw [hZ] at H CG; rw [hW]; clear hW hZ
  have k0 := BkAt.k19 H.out.2.1; have k1 := BkAt.k20 H.out.2.1; have k2 := BkAt.k21 H.out.2.1
  have lo : w.heap.size ≤ w.heap.size + 1 := by omega
  have H1 := Lib.hid H.out.1; have H3 : Hid (KAt W (w.heap.size + 1) zk) := Lib.hid H.out.2.2
  clear H
  generalize w.heap.size + 1 = q at *
  go_upto_region 2 with (first | (go_at_call 36; (with_reducible refine CG.out.mono ?_); rintro e w1 ⟨rfl, hb1⟩) | ((with_reducible apply wpList_store_knew (c := x)); exact rfl; exact rfl; exact rfl; exact rfl))
  have b2 : Below W.heap.size W (w1.alloc (.cells x.cells 37)) := hb1.trans ((below_new _ _).mono hb1.size)
  have hx1 := At.new w1 37 x.cells
  obtain ⟨w2, hw2⟩ : ∃ w2, w1.alloc (.cells x.cells 37) = w2 := ⟨_, rfl⟩
  rw [hw2] at b2 hx1 ⊢; clear hw2
  have HX : Hid (KAt w2 w1.heap.size x) := Lib.hid hx1
  have HQ : Hid (KAt w2 q zk) := Lib.hid (At.step H3.out b2)
  have HB := Lib.hid (H1.out.trans (b2.mono H1.out.size))
  clear b2 hx1 hb1 H1 H3 CG k0 k1 k2
  go_wp2_with (first | ((with_reducible apply wpList_load_kat (h := HX.out)); exact rfl; exact rfl; exact rfl) | ((with_reducible apply wpList_store_kat (c := x) (hq := HQ.out)); exact rfl; exact rfl; exact rfl; exact rfl))
  exact bodyPost_ret (results_pair Try.results16 rfl rfl (KAt.setRow HQ.out x)) rfl ⟨rfl, setRow_below HB.out lo _⟩
set_option maxRecDepth 100000 in
set_option maxHeartbeats 1600000 in
theorem find_done {b : Bk} {o p : Option Addr} {k : Int} {w : World} (hb : BAt w b o p) (hx : get k b.live = none) : Calls Try.prog 16 #[b.V o p, .int .i64 k] w (FPost w (seek k b.done)) := by
  have H := Lib.hid (new2 w (b.cells o p) zk.cells 32 37)
  have CG0 := Sh.get_any k (hb.step H.out.1).1
  rw [hx] at CG0
  have CG := Lib.hid CG0
  have hl := hb.2.le
  have HB0 := Lib.hid (hb.step H.out.1).2; have HLE : Hid (b.done.length ≤ 65536) := Lib.hid (by omega)
  clear hb hx CG0 hl
  go_enter Try.func16, Try.ntmps16
  go_upto_region 1 with fail
  obtain ⟨W, hW⟩ : ∃ W, (w.alloc (.cells (b.cells o p) 32)).alloc (.cells Z8 37) = W := ⟨_, rfl⟩
  have hZ : (w.alloc (.cells (b.cells o p) 32)).alloc (.cells zk.cells 37) = W := hW
  rw [hZ] at H CG HB0; rw [hW]; clear hW hZ
  have k0 := BkAt.k19 H.out.2.1; have k1 := BkAt.k20 H.out.2.1; have k2 := BkAt.k21 H.out.2.1
  have lo : w.heap.size ≤ w.heap.size + 1 := by omega
  have H1 := Lib.hid H.out.1; have H2 := Lib.hid H.out.2.1; have H3 : Hid (KAt W (w.heap.size + 1) zk) := Lib.hid H.out.2.2
  clear H
  generalize w.heap.size + 1 = q at *
  go_upto_region 2 with (first | (go_at_call 36; (with_reducible refine CG.out.mono ?_); rintro e w1 ⟨rfl, hb1⟩) | ((with_reducible apply wpList_store_knew (c := zk)); exact rfl; exact rfl; exact rfl; exact rfl))
  have b2 : Below W.heap.size W (w1.alloc (.cells zk.cells 37)) := hb1.trans ((below_new _ _).mono hb1.size)
  obtain ⟨w2, hw2⟩ : ∃ w2, w1.alloc (.cells zk.cells 37) = w2 := ⟨_, rfl⟩
  rw [hw2] at b2 ⊢; clear hw2
  have HQ : Hid (KAt w2 q zk) := Lib.hid (At.step H3.out b2)
  have HB := Lib.hid (H1.out.trans (b2.mono H1.out.size))
  have HG := At.step H2.out b2
  have CL := Lib.hid (Sh.List_any (HB0.out.step b2))
  clear b2 hb1 H1 H2 H3 HB0 CG k0 k1 k2
  have k0 := BkAt.k22 HG; have k1 := BkAt.k23 HG; have k2 := BkAt.k24 HG
  clear HG
  go_wp2_with fail
  refine CL.out.mono ?_
  rintro e w3 ⟨sv', rfl, o3, b3⟩
  have hst : FSt w w3 w2.heap.size sv' b.done q := ⟨o3, HB.out.trans (b3.mono HB.out.size), At.step HQ.out b3, lo⟩
  generalize w2.heap.size = B at *
  obtain ⟨O, cap, rfl⟩ := own_len o3
  have HST := Lib.hid hst; clear hst CL k0 k1 k2 o3 b3 HB HQ
  generalize b.done = l at *
  obtain ⟨n, hn⟩ : ∃ n, n = l.length := ⟨_, rfl⟩
  rw [← hn] at HST HLE ⊢
  have HNN := Lib.hid hn; clear hn
  go_wp2_with fail
  go_loopg [23] n (fun gh s23 wx => ∃ (j : Nat), j ≤ n ∧ gh = n - j ∧ s23 = .int .i64 (j : Int) ∧ FSt w wx B (.slice O n cap) l q ∧ ∀ i, i < j → ∀ y, l[i]? = some y → y.2.id ≠ k)
  case atStart => exact ⟨0, Nat.zero_le _, rfl, rfl, HST.out, fun i hi => absurd hi (by omega)⟩
  case round =>
    obtain ⟨j, hj, hg, rfl, hst, hno⟩ := hrel
    have HG := Lib.hid hg; have HNO := Lib.hid hno; clear hg HST hno
    by_cases hlt : j < n
    · obtain ⟨g, cap', x, hsv, hpx, hr9⟩ := own_cell hst.src (j := j) (by rw [← HNN.out]; exact hlt)
      rw [← HNN.out] at hsv
      injection hsv with e1 _ e3
      subst e1; subst e3
      have b5 := below_new wr (.cells (Sh.pc x) 75)
      have hp5 := At.new wr 75 (Sh.pc x)
      have HPX := Lib.hid hpx; have H9 := Lib.hid hr9
      have b3 : (j : Int) < (n : Int) := by omega
      have b4 : (0 : Int) ≤ (j : Int) := by omega
      clear hr9 hpx
      go_upto_region 7 with (first | ((with_reducible apply wpList_load_pr (c := x) (h := H9.out)); exact rfl; exact rfl; exact rfl) | ((with_reducible apply wpList_store_prnew (c := x)); exact rfl; exact rfl; exact rfl; exact rfl))
      obtain ⟨W5, hW5⟩ : ∃ W5, wr.alloc (.cells (Sh.pc x) 75) = W5 := ⟨_, rfl⟩
      rw [hW5] at b5 hp5 ⊢; clear hW5
      have HST5 := Lib.hid (hst.step b5); clear hst b5
      have HP := Lib.hid (PrAt.kk hp5)
      have kid := Sh.PAt.kid (x := x) hp5
      clear hp5
      by_cases hk : x.2.id = k
      · have d1 : decide (x.2.id = k) = true := by simpa using hk
        have d2 : (x.2.id == k) = true := by simpa using hk
        have HQ := Lib.hid HST5.out.ans; have HK := Lib.hid hk; clear hk
        go_wp2_with (first | ((with_reducible apply wpList_load_kpart (c := x.2) (h := HP.out)); exact rfl; exact rfl; exact rfl) | ((with_reducible apply wpList_store_kat (c := x.2) (hq := HQ.out)); exact rfl; exact rfl; exact rfl; exact rfl))
        refine bodyPost_ret (results_pair Try.results16 rfl rfl (KAt.setRow HQ.out x.2)) rfl ⟨?_, setRow_below HST5.out.bel HST5.out.lo _⟩
        rw [seek_hit HPX.out HK.out HNO.out]; rfl
      · have d1 : decide (x.2.id = k) = false := by simpa using hk
        have d2 : (x.2.id == k) = false := by simpa using hk
        have HK := Lib.hid hk; clear hk
        go_wp2_with fail
        go_roundg (n - (j + 1))
        case measure => have := HG.out; omega
        case rel => exact ⟨j + 1, by omega, rfl, (by have := HLE.out; have := HNN.out; rw [IntWalk.wrap64_in _ (by omega)]; rfl), HST5.out, fun i hi y hy => by
          by_cases hij : i < j
          · exact HNO.out i hij y hy
          · obtain rfl : i = j := by omega
            rw [HPX.out] at hy
            injection hy with hy
            subst hy
            exact HK.out⟩
    · obtain rfl : j = n := by omega
      have HST2 := Lib.hid hst; clear hst
      have HQ := Lib.hid HST2.out.ans
      go_wp2_with (first | ((with_reducible apply wpList_build_zk); exact rfl; exact rfl) | ((with_reducible apply wpList_store_kat (c := zk) (hq := HQ.out)); exact rfl; exact rfl; exact rfl; exact rfl))
      refine bodyPost_ret (results_pair Try.results16 rfl rfl (KAt.setRow HQ.out zk)) rfl ⟨?_, setRow_below HST2.out.bel HST2.out.lo _⟩
      rw [seek_none (fun i y hy => HNO.out i (by have := (List.getElem?_eq_some_iff.1 hy).1; have := HNN.out; omega) y hy)]; rfl
theorem findB_any {b : Bk} {o p : Option Addr} (k : Int) {w : World} (hb : BAt w b o p) : Calls Try.prog 16 #[b.V o p, .int .i64 k] w (FPost w (findB b k)) := by
  unfold findB
  cases hx : get k b.live with
  | some x => exact find_live hb hx
  | none => exact find_done hb hx
end Go.Proofs.Ytodacdooooeofaa
