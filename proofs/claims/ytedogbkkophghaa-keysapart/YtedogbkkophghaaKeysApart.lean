/- The walk of KeysApart. -/
import Derived.Test.YtedogbkkophghaaKyS
namespace Go.Proofs.Ytedogbkkophghaa
open Go.RowKit Go.Lib
open Sh.Plain (KV get put Rise)
set_option linter.unusedVariables false
set_option linter.unusedSimpArgs false

def toK : ByteArray := ⟨#[111, 116, 104, 101, 114]⟩
/-- the outer blocks: both deeds, the keys -/
structure AS (w wx : World) (gx gy q : Nat) (b : Ky) (ob : Option Addr) (x y : Ac) : Prop where
  bel : Below w.heap.size w wx
  kx : AcAt wx gx x
  ky : AcAt wx gy y
  bk : KyAt wx q b ob
  at_ : YAt wx b ob
  lo : w.heap.size ≤ q
theorem AS.step {w W W' : World} {gx gy q : Nat} {b : Ky} {ob : Option Addr} {x y : Ac} (h : AS w W gx gy q b ob x y) (hb : Below W.heap.size W W') : AS w W' gx gy q b ob x y :=
  ⟨h.bel.trans (hb.mono h.bel.size), At.step h.kx hb, At.step h.ky hb, At.step h.bk hb, h.at_.step hb, h.lo⟩
theorem AS.fresh {w W : World} {gx gy q t : Nat} {b d : Ky} {ob od : Option Addr} {x y : Ac} (h : AS w W gx gy q b ob x y) (ht : KyAt W t zy none) (hd : YAt W d od) (lt : w.heap.size ≤ t) (hne : q ≠ t) :
    AS w (W.setRow t (d.cells od)) gx gy q b ob x y ∧ KyAt (W.setRow t (d.cells od)) t d od ∧ YAt (W.setRow t (d.cells od)) d od :=
  ⟨⟨setRow_below h.bel lt _, At.farRow h.kx (At.ne h.kx ht (by decide)), At.farRow h.ky (At.ne h.ky ht (by decide)), At.farRow h.bk hne, h.at_.farRow ht (by decide) (by decide), h.lo⟩, At.setRow ht _, hd.farRow ht (by decide) (by decide)⟩
theorem AS.put {w W : World} {gx gy q : Nat} {b d : Ky} {ob od : Option Addr} {x y : Ac} (h : AS w W gx gy q b ob x y) (hd : YAt W d od) : AS w (W.setRow q (d.cells od)) gx gy q d od x y :=
  ⟨setRow_below h.bel h.lo _, At.farRow h.kx (At.ne h.kx h.bk (by decide)), At.farRow h.ky (At.ne h.ky h.bk (by decide)), At.setRow h.bk _, hd.farRow h.bk (by decide) (by decide), h.lo⟩
theorem AS.new {w W : World} {gx gy : Nat} {b : Ky} {ob : Option Addr} {x y : Ac} (hb : Below w.heap.size w W) (hx : AcAt W gx x) (hy : AcAt W gy y) (ha : YAt W b ob) : AS w (W.alloc (.cells (b.cells ob) 31)) gx gy W.heap.size b ob x y := by
  have hn := below_new W (.cells (b.cells ob) 31)
  exact ⟨hb.trans (hn.mono hb.size), At.step hx hn, At.step hy hn, At.new _ _ _, ha.step hn, hb.size⟩
set_option maxRecDepth 100000 in
set_option maxHeartbeats 6000000 in
theorem keysApart_walk (c : Cfg) (A : Option Addr) (cap : Nat) (acts : List Ac) (x y : Ac) (w : World) (hok : ∀ z ∈ acts, z.Ok) (hA : ActsAt w w.heap.size A acts) (hml : acts.length ≤ maxLen) (hx : x.Ok) (hy : y.Ok) :
    Calls Try.prog 6 #[c.V, .slice A acts.length cap, x.V, y.V] w fun e w' => e = .returned (.bool true) ∧ Below w.heap.size w w' := by
  have H := Lib.hid (new3 w c.cells x.cells y.cells 24 39 39)
  have HOK := Lib.hid hok; have HA := Lib.hid hA; have HX := Lib.hid hx; have HY := Lib.hid hy
  have CM := Lib.hid (fun W => make_any c W)
  have HW0 := Lib.hid (Wf.make c)
  obtain ⟨N, hN⟩ : ∃ N, acts.length = N := ⟨_, rfl⟩
  have HN := Lib.hid hN
  rw [hN] at hml ⊢
  have HML : Hid (N ≤ 9223372036854775807) := Lib.hid (by unfold maxLen at hml; omega)
  clear hok hA hx hy hN hml
  go_enter Try.func6, Try.ntmps6
  go_upto_region 1 with fail
  obtain ⟨W0, hW⟩ : ∃ W0, ((w.alloc (.cells c.cells 24)).alloc (.cells x.cells 39)).alloc (.cells y.cells 39) = W0 := ⟨_, rfl⟩
  rw [hW] at H ⊢; clear hW
  have KC0 : Hid (CAt W0 w.heap.size c) := Lib.hid H.out.2.1
  have KX0 : Hid (AcAt W0 (w.heap.size + 1) x) := Lib.hid H.out.2.2.1
  have KY0 : Hid (AcAt W0 (w.heap.size + 1 + 1) y) := Lib.hid H.out.2.2.2
  have HB0 := Lib.hid H.out.1; clear H
  generalize w.heap.size + 1 + 1 = gy at *
  generalize w.heap.size + 1 = gx at *
  have CA := Lib.hid (awake_any W0)
  go_wp2_with fail
  refine CA.out.mono ?_
  rintro e w1 ⟨rfl, hb1⟩
  have KC : Hid (CAt w1 w.heap.size c) := Lib.hid (At.step KC0.out hb1)
  have KX : Hid (AcAt w1 gx x) := Lib.hid (At.step KX0.out hb1)
  have KY : Hid (AcAt w1 gy y) := Lib.hid (At.step KY0.out hb1)
  have HB := Lib.hid (HB0.out.trans (hb1.mono HB0.out.size))
  clear KC0 KX0 KY0 HB0 CA hb1
  by_cases h60 : (60 : Int) < (N : Int)
  · go_wp2_with fail
    go_ret
    exact ⟨rfl, HB.out⟩
  have HN60 : Hid (N ≤ 60) := Lib.hid (by omega)
  go_upto_region 6 with (first | ((with_reducible apply wpList_load_cat (h := KC.out)); exact rfl; exact rfl; exact rfl) | (go_at_call 8; (with_reducible refine (CM.out _).mono ?_); rintro e v0 ⟨o0, rfl, ha0, hb0⟩) | ((with_reducible apply wpList_store_kynew (b := makeK c) (s := o0)); exact rfl; exact rfl; exact rfl; exact rfl))
  have has := AS.new (HB.out.trans (hb0.mono HB.out.size)) (At.step KX.out hb0) (At.step KY.out hb0) ha0
  obtain ⟨W1, hW⟩ : ∃ W1, v0.alloc (.cells ((makeK c).cells o0) 31) = W1 := ⟨_, rfl⟩
  rw [hW] at has ⊢; clear hW
  have HAS0 := Lib.hid has; clear has ha0 hb0 KC KX KY HB CM h60
  generalize v0.heap.size = q at *
  generalize makeK c = b0 at *
  go_wp2_with fail
  go_loopg [10, 11] N (fun gh s10 s11 wx => ∃ (j : Nat) (nw : Int) (b : Ky) (ob : Option Addr), j ≤ N ∧ gh = N - j ∧ s11 = .int .i64 (j : Int) ∧ s10 = .int .i64 nw ∧ 0 ≤ nw ∧ nw ≤ 2 * (j : Int) ∧ Wf b ∧ AS w wx gx gy q b ob x y)
  case atStart => exact ⟨0, 0, b0, o0, Nat.zero_le _, rfl, rfl, rfl, Int.le_refl _, by omega, HW0.out, HAS0.out⟩
  case round =>
    obtain ⟨j, nw, b, ob, hj, hg, rfl, rfl, hn0, hn2, hwf, has⟩ := hrel
    have HG := Lib.hid hg; have HWF := Lib.hid hwf; have HAS := Lib.hid has; clear hg hwf has HAS0 HW0
    have b4 : (0 : Int) ≤ (j : Int) := by omega
    by_cases hlt : j < N
    · have b3 : (j : Int) < (N : Int) := by omega
      have hjl : j < acts.length := by rw [HN.out]; exact hlt
      obtain ⟨z, hz⟩ : ∃ z, acts[j]? = some z := ⟨_, List.getElem?_eq_getElem hjl⟩
      have HZ := Lib.hid (HOK.out z (List.mem_of_getElem? hz))
      obtain ⟨bb, off, rfl, hbb, hr⟩ := (HA.out.keep HAS.out.bel).row hz
      obtain ⟨k0, k1, k2, k3, k4⟩ := Ac.rows hr
      have HR := Lib.hid hr; have HBB := Lib.hid hbb
      have hts := tick_num (x := z.now) (m := 3) hn0 (by have := HN60.out; omega) (by omega) (by omega)
      obtain ⟨nt, hnt, hn3, hn4⟩ := hts
      have HNT := Lib.hid (show 0 ≤ nt ∧ nt ≤ 2 * ((j : Int) + 1) by omega)
      have HJ := Lib.hid hlt
      clear hr hbb hz hjl hn0 hn2 hn3 hn4 hlt hj k0 k2 k3
      by_cases hl40 : (40 : Int) < (z.body.size : Int)
      · clear hnt
        go_wp2_with fail
        go_ret
        exact ⟨rfl, HAS.out.bel⟩
      go_upto_region 13 with fail
      rw [hnt]
      clear hnt k1 k4 hl40
      obtain ⟨d, ee, hde⟩ : ∃ d ee, withK b nt z.who z.key z.body z.body = (d, ee) := ⟨_, _, rfl⟩
      have CW := Lib.hid (fun W (h : YAt W b ob) => keysWith_any nt z.who z.key z.body z.body HZ.out.2.2.1 h HWF.out.fit)
      rw [hde] at CW
      have HDE := Lib.hid hde; clear hde
      generalize hza : z.who = zw at *; generalize hzk : z.key = zk at *; generalize hzb : z.body = zb at *
      have HZA := Lib.hid hza; have HZK := Lib.hid hzk; have HZB := Lib.hid hzb; clear hza hzk hzb
      refine AnyOrder.region_store2 27 [.eq (b.V ob), .eq (.int .i64 nt), .eq (.slice (some ⟨bb, off, none⟩) N cap), .eq (.int .i64 (j : Int)), .eq (ptr bb (off + j * 5)), .eq (ptr bb (off + j * 5 + 2)), .eq (.int .i64 zw), .eq (.slice (some ⟨bb, off, none⟩) N cap), .eq (.int .i64 (j : Int)), .eq (ptr bb (off + j * 5)), .eq (ptr bb (off + j * 5 + 3)), .eq (.int .u64 zk), .eq (.slice (some ⟨bb, off, none⟩) N cap), .eq (.int .i64 (j : Int)), .eq (ptr bb (off + j * 5)), .eq (ptr bb (off + j * 5 + 4)), .eq (.string zb), .eq (.slice (some ⟨bb, off, none⟩) N cap), .eq (.int .i64 (j : Int)), .eq (ptr bb (off + j * 5)), .eq (ptr bb (off + j * 5 + 4)), .eq (.string zb), .of (KvAt (d, ee)), .of (KvAt (d, ee)), .of (KwAt d), .eq (.int .i64 ee), .of (AnyOrder.Fresh wr 31 (zy.cells none))] (fun wx => Below wr.heap.size wr wx) 25 75 12 74 31 (.int .i64 ee) _ _ (by kernel_rfl) (by kernel_rfl) rfl (by kernel_rfl) rfl rfl (by decide) rfl rfl rfl rfl rfl (by decide) rfl (fun a w w1 hJ hd hr hs => by obtain ⟨v', e, _⟩ := hd 23 50 (by decide) (by decide) rfl; generalize a.eval = ρ at e ⊢; simp [execOp, e, go_sem]) (below_drewN (Below.refl _ _) 1) (by intro p wa wb hp hj hb v hv; simp at hp; rcases hp with rfl | rfl | rfl | rfl <;> (first | exact KvAt.keep hv hb | exact KvAt.keep hv hb | exact KwAt.keep hv hb | exact AnyOrder.Fresh.keep hv hb | fail)) ?_ ?_
      · intro i o listed a1 w2 hin ho st hl hdep
        match i, ho with
        | 0, ho => (injection ho with ho; subst ho; have ec : ∀ v, a1.eval (.const v) = v := fun _ => rfl; have ef : ∀ f, a1.eval (.func f) = .func (.func f) #[] #[] := fun _ => rfl; have e0 : a1.eval (.tmp 9) = ptr q 0 := st.old hl 9 (by kernel_rfl); exact AnyOrder.step_value rfl (AnyOrder.wanted_none rfl) (b.V ob) (run_load_ky e0 (At.step HAS.out.bk st.inv)) st.inv (Below.refl _ _) rfl)
        | 1, ho => (injection ho with ho; subst ho; have ec : ∀ v, a1.eval (.const v) = v := fun _ => rfl; have ef : ∀ f, a1.eval (.func f) = .func (.func f) #[] #[] := fun _ => rfl; have e0 : a1.eval (.tmp 10) = .int .i64 nt := st.old hl 10 (by kernel_rfl); exact AnyOrder.step_value rfl (AnyOrder.wanted_none rfl) (.int .i64 nt) (AnyOrder.run_move e0) st.inv (Below.refl _ _) rfl)
        | 2, ho => (injection ho with ho; subst ho; have ec : ∀ v, a1.eval (.const v) = v := fun _ => rfl; have ef : ∀ f, a1.eval (.func f) = .func (.func f) #[] #[] := fun _ => rfl; have e0 : a1.eval (.tmp 1) = .slice (some ⟨bb, off, none⟩) N cap := st.old hl 1 (by kernel_rfl); exact AnyOrder.step_value rfl (AnyOrder.wanted_none rfl) (.slice (some ⟨bb, off, none⟩) N cap) (AnyOrder.run_move e0) st.inv (Below.refl _ _) rfl)
        | 3, ho => (injection ho with ho; subst ho; have ec : ∀ v, a1.eval (.const v) = v := fun _ => rfl; have ef : ∀ f, a1.eval (.func f) = .func (.func f) #[] #[] := fun _ => rfl; have e0 : a1.eval (.tmp 11) = .int .i64 (j : Int) := st.old hl 11 (by kernel_rfl); exact AnyOrder.step_value rfl (AnyOrder.wanted_none rfl) (.int .i64 (j : Int)) (AnyOrder.run_move e0) st.inv (Below.refl _ _) rfl)
        | 4, ho => (injection ho with ho; subst ho; have ec : ∀ v, a1.eval (.const v) = v := fun _ => rfl; have ef : ∀ f, a1.eval (.func f) = .func (.func f) #[] #[] := fun _ => rfl; have e0 : a1.eval (.tmp 53) = .slice (some ⟨bb, off, none⟩) N cap := st.done 2 53 (hdep ⟨2, .data⟩ (by simp) rfl) rfl; have e1 : a1.eval (.tmp 54) = .int .i64 (j : Int) := st.done 3 54 (hdep ⟨3, .data⟩ (by simp) rfl) rfl; exact AnyOrder.step_value rfl (AnyOrder.wanted_none rfl) (ptr bb (off + j * 5)) (by generalize a1.eval = ρ at ec ef e0 e1 ⊢; simp [execOp, e0, e1, go_sem, b3, b4]) st.inv (Below.refl _ _) rfl)
        | 5, ho => (injection ho with ho; subst ho; have ec : ∀ v, a1.eval (.const v) = v := fun _ => rfl; have ef : ∀ f, a1.eval (.func f) = .func (.func f) #[] #[] := fun _ => rfl; have e0 : a1.eval (.tmp 55) = ptr bb (off + j * 5) := st.done 4 55 (hdep ⟨4, .data⟩ (by simp) rfl) rfl; exact AnyOrder.step_value rfl (AnyOrder.wanted_none rfl) (ptr bb (off + j * 5 + 2)) (by generalize a1.eval = ρ at ec ef e0 ⊢; simp [execOp, ec, ef, e0, IntWalk.i64_left, go_sem]) st.inv (Below.refl _ _) rfl)
        | 6, ho => (injection ho with ho; subst ho; have ec : ∀ v, a1.eval (.const v) = v := fun _ => rfl; have ef : ∀ f, a1.eval (.func f) = .func (.func f) #[] #[] := fun _ => rfl; have e0 : a1.eval (.tmp 56) = ptr bb (off + j * 5 + 2) := st.done 5 56 (hdep ⟨5, .data⟩ (by simp) rfl) rfl; exact AnyOrder.step_value rfl (AnyOrder.wanted_none rfl) (.int .i64 zw) (by have hk := (Ac.rows (rng_below HR.out st.inv (Nat.lt_of_lt_of_le HBB.out HAS.out.bel.size))).2.2.1; rw [HZA.out] at hk; generalize a1.eval = ρ at ec ef e0 ⊢; simp [execOp, e0, go_sem, hk]) st.inv (Below.refl _ _) rfl)
        | 7, ho => (injection ho with ho; subst ho; have ec : ∀ v, a1.eval (.const v) = v := fun _ => rfl; have ef : ∀ f, a1.eval (.func f) = .func (.func f) #[] #[] := fun _ => rfl; have e0 : a1.eval (.tmp 1) = .slice (some ⟨bb, off, none⟩) N cap := st.old hl 1 (by kernel_rfl); exact AnyOrder.step_value rfl (AnyOrder.wanted_none rfl) (.slice (some ⟨bb, off, none⟩) N cap) (AnyOrder.run_move e0) st.inv (Below.refl _ _) rfl)
        | 8, ho => (injection ho with ho; subst ho; have ec : ∀ v, a1.eval (.const v) = v := fun _ => rfl; have ef : ∀ f, a1.eval (.func f) = .func (.func f) #[] #[] := fun _ => rfl; have e0 : a1.eval (.tmp 11) = .int .i64 (j : Int) := st.old hl 11 (by kernel_rfl); exact AnyOrder.step_value rfl (AnyOrder.wanted_none rfl) (.int .i64 (j : Int)) (AnyOrder.run_move e0) st.inv (Below.refl _ _) rfl)
        | 9, ho => (injection ho with ho; subst ho; have ec : ∀ v, a1.eval (.const v) = v := fun _ => rfl; have ef : ∀ f, a1.eval (.func f) = .func (.func f) #[] #[] := fun _ => rfl; have e0 : a1.eval (.tmp 58) = .slice (some ⟨bb, off, none⟩) N cap := st.done 7 58 (hdep ⟨7, .data⟩ (by simp) rfl) rfl; have e1 : a1.eval (.tmp 59) = .int .i64 (j : Int) := st.done 8 59 (hdep ⟨8, .data⟩ (by simp) rfl) rfl; exact AnyOrder.step_value rfl (AnyOrder.wanted_none rfl) (ptr bb (off + j * 5)) (by generalize a1.eval = ρ at ec ef e0 e1 ⊢; simp [execOp, e0, e1, go_sem, b3, b4]) st.inv (Below.refl _ _) rfl)
        | 10, ho => (injection ho with ho; subst ho; have ec : ∀ v, a1.eval (.const v) = v := fun _ => rfl; have ef : ∀ f, a1.eval (.func f) = .func (.func f) #[] #[] := fun _ => rfl; have e0 : a1.eval (.tmp 60) = ptr bb (off + j * 5) := st.done 9 60 (hdep ⟨9, .data⟩ (by simp) rfl) rfl; exact AnyOrder.step_value rfl (AnyOrder.wanted_none rfl) (ptr bb (off + j * 5 + 3)) (by generalize a1.eval = ρ at ec ef e0 ⊢; simp [execOp, ec, ef, e0, IntWalk.i64_left, go_sem]) st.inv (Below.refl _ _) rfl)
        | 11, ho => (injection ho with ho; subst ho; have ec : ∀ v, a1.eval (.const v) = v := fun _ => rfl; have ef : ∀ f, a1.eval (.func f) = .func (.func f) #[] #[] := fun _ => rfl; have e0 : a1.eval (.tmp 61) = ptr bb (off + j * 5 + 3) := st.done 10 61 (hdep ⟨10, .data⟩ (by simp) rfl) rfl; exact AnyOrder.step_value rfl (AnyOrder.wanted_none rfl) (.int .u64 zk) (by have hk := (Ac.rows (rng_below HR.out st.inv (Nat.lt_of_lt_of_le HBB.out HAS.out.bel.size))).2.2.2.1; rw [HZK.out] at hk; generalize a1.eval = ρ at ec ef e0 ⊢; simp [execOp, e0, go_sem, hk]) st.inv (Below.refl _ _) rfl)
        | 12, ho => (injection ho with ho; subst ho; have ec : ∀ v, a1.eval (.const v) = v := fun _ => rfl; have ef : ∀ f, a1.eval (.func f) = .func (.func f) #[] #[] := fun _ => rfl; have e0 : a1.eval (.tmp 1) = .slice (some ⟨bb, off, none⟩) N cap := st.old hl 1 (by kernel_rfl); exact AnyOrder.step_value rfl (AnyOrder.wanted_none rfl) (.slice (some ⟨bb, off, none⟩) N cap) (AnyOrder.run_move e0) st.inv (Below.refl _ _) rfl)
        | 13, ho => (injection ho with ho; subst ho; have ec : ∀ v, a1.eval (.const v) = v := fun _ => rfl; have ef : ∀ f, a1.eval (.func f) = .func (.func f) #[] #[] := fun _ => rfl; have e0 : a1.eval (.tmp 11) = .int .i64 (j : Int) := st.old hl 11 (by kernel_rfl); exact AnyOrder.step_value rfl (AnyOrder.wanted_none rfl) (.int .i64 (j : Int)) (AnyOrder.run_move e0) st.inv (Below.refl _ _) rfl)
        | 14, ho => (injection ho with ho; subst ho; have ec : ∀ v, a1.eval (.const v) = v := fun _ => rfl; have ef : ∀ f, a1.eval (.func f) = .func (.func f) #[] #[] := fun _ => rfl; have e0 : a1.eval (.tmp 63) = .slice (some ⟨bb, off, none⟩) N cap := st.done 12 63 (hdep ⟨12, .data⟩ (by simp) rfl) rfl; have e1 : a1.eval (.tmp 64) = .int .i64 (j : Int) := st.done 13 64 (hdep ⟨13, .data⟩ (by simp) rfl) rfl; exact AnyOrder.step_value rfl (AnyOrder.wanted_none rfl) (ptr bb (off + j * 5)) (by generalize a1.eval = ρ at ec ef e0 e1 ⊢; simp [execOp, e0, e1, go_sem, b3, b4]) st.inv (Below.refl _ _) rfl)
        | 15, ho => (injection ho with ho; subst ho; have ec : ∀ v, a1.eval (.const v) = v := fun _ => rfl; have ef : ∀ f, a1.eval (.func f) = .func (.func f) #[] #[] := fun _ => rfl; have e0 : a1.eval (.tmp 65) = ptr bb (off + j * 5) := st.done 14 65 (hdep ⟨14, .data⟩ (by simp) rfl) rfl; exact AnyOrder.step_value rfl (AnyOrder.wanted_none rfl) (ptr bb (off + j * 5 + 4)) (by generalize a1.eval = ρ at ec ef e0 ⊢; simp [execOp, ec, ef, e0, IntWalk.i64_left, go_sem]) st.inv (Below.refl _ _) rfl)
        | 16, ho => (injection ho with ho; subst ho; have ec : ∀ v, a1.eval (.const v) = v := fun _ => rfl; have ef : ∀ f, a1.eval (.func f) = .func (.func f) #[] #[] := fun _ => rfl; have e0 : a1.eval (.tmp 66) = ptr bb (off + j * 5 + 4) := st.done 15 66 (hdep ⟨15, .data⟩ (by simp) rfl) rfl; exact AnyOrder.step_value rfl (AnyOrder.wanted_none rfl) (.string zb) (by have hk := (Ac.rows (rng_below HR.out st.inv (Nat.lt_of_lt_of_le HBB.out HAS.out.bel.size))).2.2.2.2; rw [HZB.out] at hk; generalize a1.eval = ρ at ec ef e0 ⊢; simp [execOp, e0, go_sem, hk]) st.inv (Below.refl _ _) rfl)
        | 17, ho => (injection ho with ho; subst ho; have ec : ∀ v, a1.eval (.const v) = v := fun _ => rfl; have ef : ∀ f, a1.eval (.func f) = .func (.func f) #[] #[] := fun _ => rfl; have e0 : a1.eval (.tmp 1) = .slice (some ⟨bb, off, none⟩) N cap := st.old hl 1 (by kernel_rfl); exact AnyOrder.step_value rfl (AnyOrder.wanted_none rfl) (.slice (some ⟨bb, off, none⟩) N cap) (AnyOrder.run_move e0) st.inv (Below.refl _ _) rfl)
        | 18, ho => (injection ho with ho; subst ho; have ec : ∀ v, a1.eval (.const v) = v := fun _ => rfl; have ef : ∀ f, a1.eval (.func f) = .func (.func f) #[] #[] := fun _ => rfl; have e0 : a1.eval (.tmp 11) = .int .i64 (j : Int) := st.old hl 11 (by kernel_rfl); exact AnyOrder.step_value rfl (AnyOrder.wanted_none rfl) (.int .i64 (j : Int)) (AnyOrder.run_move e0) st.inv (Below.refl _ _) rfl)
        | 19, ho => (injection ho with ho; subst ho; have ec : ∀ v, a1.eval (.const v) = v := fun _ => rfl; have ef : ∀ f, a1.eval (.func f) = .func (.func f) #[] #[] := fun _ => rfl; have e0 : a1.eval (.tmp 68) = .slice (some ⟨bb, off, none⟩) N cap := st.done 17 68 (hdep ⟨17, .data⟩ (by simp) rfl) rfl; have e1 : a1.eval (.tmp 69) = .int .i64 (j : Int) := st.done 18 69 (hdep ⟨18, .data⟩ (by simp) rfl) rfl; exact AnyOrder.step_value rfl (AnyOrder.wanted_none rfl) (ptr bb (off + j * 5)) (by generalize a1.eval = ρ at ec ef e0 e1 ⊢; simp [execOp, e0, e1, go_sem, b3, b4]) st.inv (Below.refl _ _) rfl)
        | 20, ho => (injection ho with ho; subst ho; have ec : ∀ v, a1.eval (.const v) = v := fun _ => rfl; have ef : ∀ f, a1.eval (.func f) = .func (.func f) #[] #[] := fun _ => rfl; have e0 : a1.eval (.tmp 70) = ptr bb (off + j * 5) := st.done 19 70 (hdep ⟨19, .data⟩ (by simp) rfl) rfl; exact AnyOrder.step_value rfl (AnyOrder.wanted_none rfl) (ptr bb (off + j * 5 + 4)) (by generalize a1.eval = ρ at ec ef e0 ⊢; simp [execOp, ec, ef, e0, IntWalk.i64_left, go_sem]) st.inv (Below.refl _ _) rfl)
        | 21, ho => (injection ho with ho; subst ho; have ec : ∀ v, a1.eval (.const v) = v := fun _ => rfl; have ef : ∀ f, a1.eval (.func f) = .func (.func f) #[] #[] := fun _ => rfl; have e0 : a1.eval (.tmp 71) = ptr bb (off + j * 5 + 4) := st.done 20 71 (hdep ⟨20, .data⟩ (by simp) rfl) rfl; exact AnyOrder.step_value rfl (AnyOrder.wanted_none rfl) (.string zb) (by have hk := (Ac.rows (rng_below HR.out st.inv (Nat.lt_of_lt_of_le HBB.out HAS.out.bel.size))).2.2.2.2; rw [HZB.out] at hk; generalize a1.eval = ρ at ec ef e0 ⊢; simp [execOp, e0, go_sem, hk]) st.inv (Below.refl _ _) rfl)
        | 22, ho => (injection ho with ho; subst ho; have ec : ∀ v, a1.eval (.const v) = v := fun _ => rfl; have ef : ∀ f, a1.eval (.func f) = .func (.func f) #[] #[] := fun _ => rfl; have e0 : a1.eval (.tmp 51) = b.V ob := st.done 0 51 (hdep ⟨0, .data⟩ (by simp) rfl) rfl; have e1 : a1.eval (.tmp 52) = .int .i64 nt := st.done 1 52 (hdep ⟨1, .data⟩ (by simp) rfl) rfl; have e2 : a1.eval (.tmp 57) = .int .i64 zw := st.done 6 57 (hdep ⟨6, .data⟩ (by simp) rfl) rfl; have e3 : a1.eval (.tmp 62) = .int .u64 zk := st.done 11 62 (hdep ⟨11, .data⟩ (by simp) rfl) rfl; have e4 : a1.eval (.tmp 67) = .string zb := st.done 16 67 (hdep ⟨16, .data⟩ (by simp) rfl) rfl; have e5 : a1.eval (.tmp 72) = .string zb := st.done 21 72 (hdep ⟨21, .data⟩ (by simp) rfl) rfl; exact AnyOrder.step_call rfl (AnyOrder.wanted_none rfl) 16 #[b.V ob, .int .i64 nt, .int .i64 zw, .int .u64 zk, .string zb, .string zb] (by generalize a1.eval = ρ at ec ef e0 e1 e2 e3 e4 e5 ⊢; simp [execOp, ec, ef, e0, e1, e2, e3, e4, e5, go_sem]) ((CW.out _ (HAS.out.at_.step st.inv)).mono (fun e w4 h => by obtain ⟨o4, rfl, ha, hb⟩ := h; exact ⟨_, rfl, st.inv.trans (hb.mono st.inv.size), hb, o4, rfl, ha⟩)))
        | 23, ho => (injection ho with ho; subst ho; have ec : ∀ v, a1.eval (.const v) = v := fun _ => rfl; have ef : ∀ f, a1.eval (.func f) = .func (.func f) #[] #[] := fun _ => rfl; have e0 := st.done 22 73 (hdep ⟨22, .data⟩ (by simp) rfl) rfl; obtain ⟨v18, e18⟩ : ∃ v, a1.eval (.tmp 73) = v := ⟨_, rfl⟩; rw [e18] at e0; exact AnyOrder.step_value rfl (AnyOrder.wanted_none rfl) v18 (AnyOrder.run_move e18) st.inv (Below.refl _ _) e0)
        | 24, ho => (injection ho with ho; subst ho; have ec : ∀ v, a1.eval (.const v) = v := fun _ => rfl; have ef : ∀ f, a1.eval (.func f) = .func (.func f) #[] #[] := fun _ => rfl; have e0 := st.done 23 50 (hdep ⟨23, .data⟩ (by simp) rfl) rfl; obtain ⟨o4, e18, h18⟩ := e0; exact AnyOrder.step_value rfl (AnyOrder.wanted_none rfl) (d.V o4) (by generalize a1.eval = ρ at ec ef e18 ⊢; simp [execOp, e18, go_sem]) st.inv (Below.refl _ _) ⟨o4, rfl, h18⟩)
        | 25, ho => (injection ho with ho; subst ho; have ec : ∀ v, a1.eval (.const v) = v := fun _ => rfl; have ef : ∀ f, a1.eval (.func f) = .func (.func f) #[] #[] := fun _ => rfl; have e0 := st.done 23 50 (hdep ⟨23, .data⟩ (by simp) rfl) rfl; obtain ⟨o4, e18, h18⟩ := e0; exact AnyOrder.step_value rfl (AnyOrder.wanted_none rfl) _ (by generalize a1.eval = ρ at ec ef e18 ⊢; simp [execOp, e18, go_sem]) st.inv (Below.refl _ _) rfl)
        | 26, ho => (injection ho with ho; subst ho; have ec : ∀ v, a1.eval (.const v) = v := fun _ => rfl; have ef : ∀ f, a1.eval (.func f) = .func (.func f) #[] #[] := fun _ => rfl; exact AnyOrder.step_value rfl (AnyOrder.wanted_none rfl) (ptr w2.heap.size 0) run_alloc_ky (st.inv.alloc st.inv.size _) (below_new _ _) ⟨_, rfl, st.inv.size, by simp, heap_alloc_new _ _⟩)
        | n + 27, ho => exact absurd hin (by omega)
      · intro wy hJ
        simp only [AnyOrder.finK, List.take_succ_cons, List.take_zero, List.drop_succ_cons, List.drop_zero, Act.put, List.setIfInBounds_toArray, List.set_cons_zero, List.set_cons_succ]
        intro v22 h22 v23 h23 v24 h24 v26 h26
        clear h22 h23
        obtain ⟨o4, rfl, h4⟩ := h24
        obtain ⟨t, rfl, l21, l22, l23⟩ := h26
        have HQ1 : Hid (KyAt wy t zy none) := Lib.hid l23
        refine ⟨_, run_store_ky (b := d) (o := o4) rfl rfl HQ1.out, ?_⟩
        have lq1 := At.lt HAS.out.bk; have lq3 := HAS.out.bel.size
        have HS0 := Lib.hid ((HAS.out.step hJ).fresh HQ1.out h4 (by omega) (by omega))
        clear h4 l21 l22 l23 hJ lq1 lq3 HAS
        obtain ⟨w3, hw3⟩ : ∃ w3, (wy.setRow t (d.cells o4)) = w3 := ⟨_, rfl⟩
        rw [hw3] at HS0 ⊢; clear hw3 HQ1 HR HBB CW
        have HAS := Lib.hid HS0.out.1; have HK1 := Lib.hid HS0.out.2.1; have HY1 := Lib.hid HS0.out.2.2; have HQ := Lib.hid HAS.out.bk
        clear HS0
        by_cases h0 : ee = 0
        · have HPUT := Lib.hid (HAS.out.put HY1.out)
          have HWF2 : Hid (Wf d) := Lib.hid (by
            rcases withK_ok HDE.out with ⟨_, rfl, hl⟩ | ⟨h7, _, _⟩
            · have hc := (canK_in (look_new hl).1).1
              exact HWF.out.withY hc (by have := HZ.out.2.2.1; rw [HZK.out] at this; exact this) _ _
            · omega)
          subst h0
          clear HAS
          go_wp2_with (first | ((with_reducible apply wpList_load_ky (h := HK1.out)); exact rfl; exact rfl; exact rfl) | ((with_reducible apply wpList_store_ky (b := d) (s := o4) (hq := HQ.out)); exact rfl; exact rfl; exact rfl; exact rfl))
          go_roundg (N - (j + 1))
          case measure => have := HG.out; have := HJ.out; omega
          case rel => exact ⟨j + 1, nt, d, o4, by have := HJ.out; omega, rfl, by go_num, rfl, HNT.out.1, by have := HNT.out.2; omega, HWF2.out, HPUT.out⟩
        · have d1 : decide (ee = 0) = false := by simpa using h0
          have d2 : (ee == 0) = false := by simpa using h0
          clear h0
          go_wp2_with fail
          go_roundg (N - (j + 1))
          case measure => have := HG.out; have := HJ.out; omega
          case rel => exact ⟨j + 1, nt, b, ob, by have := HJ.out; omega, rfl, by go_num, rfl, HNT.out.1, by have := HNT.out.2; omega, HWF.out, HAS.out⟩
    · obtain rfl : j = N := by omega
      have b3 : ¬ (j : Int) < (j : Int) := by omega
      clear hlt hj hn0 hn2 HG HN HN60 HML HA HOK
      have kx2 := HAS.out.kx.k2; have kx3 := HAS.out.kx.k3; have kx4 := HAS.out.kx.k4
      have ky2 := HAS.out.ky.k2; have ky3 := HAS.out.ky.k3; have ky4 := HAS.out.ky.k4
      obtain ⟨q3, q4, e3, e4⟩ : ∃ q3 q4 : Bool, decide (40 < (x.body.size : Int)) = q3 ∧ decide (40 < (y.body.size : Int)) = q4 := ⟨_, _, rfl, rfl⟩
      by_cases h1 : x.who = y.who
      · have f1 : (x.who == y.who) = true := by simpa using h1
        have g1 : decide (x.who = y.who) = true := by simpa using h1
        by_cases h2 : x.key = y.key
        · have f2 : (x.key == y.key) = true := by simpa using h2
          have g2 : decide (x.key = y.key) = true := by simpa using h2
          clear h1 h2 e3 e4
          go_wp2_with fail
          go_ret
          exact ⟨rfl, HAS.out.bel⟩
        · have f2 : (x.key == y.key) = false := by simpa using h2
          have g2 : decide (x.key = y.key) = false := by simpa using h2
          have HNE : Hid (¬ (x.who = y.who ∧ x.key = y.key)) := Lib.hid (fun h => h2 h.2)
          clear h1 h2
          have g3 : decide (40 < (x.body.size : Int)) = q3 := e3
          have g4 : decide (40 < (y.body.size : Int)) = q4 := e4
          clear e3 e4
          cases q3
          · cases q4
            · as_aux_lemma =>
              go_upto_region 18 with fail
              clear f1 g1 f2 g2 g3 g4
              have CL := Lib.hid (look_any (b := b) nw x.who x.key x.body HX.out.2.2.1 HAS.out.at_)
              have HBK := Lib.hid HAS.out.bk
              go_upto_region 19 with (first | ((with_reducible apply wpList_load_ky (h := HBK.out)); exact rfl; exact rfl; exact rfl) | (go_at_call 14; (with_reducible refine CL.out.mono ?_); rintro e V1 ⟨rfl, hv1⟩))
              have HAS1 := Lib.hid (HAS.out.step hv1); clear HAS HBK CL hv1 kx2 kx3 kx4 ky2 ky3 ky4
              have ky2 := HAS1.out.ky.k2; have ky3 := HAS1.out.ky.k3; have ky4 := HAS1.out.ky.k4
              obtain ⟨r1, hr1⟩ : ∃ r1, lookK b nw x.who x.key x.body = r1 := ⟨_, rfl⟩
              rw [hr1]
              obtain ⟨s1, v1⟩ := r1
              obtain ⟨d, ee, hde⟩ : ∃ d ee, withK b nw y.who y.key y.body toK = (d, ee) := ⟨_, _, rfl⟩
              have CW := keysWith_any nw y.who y.key y.body toK HY.out.2.2.1 HAS1.out.at_ HWF.out.fit
              rw [hde] at CW
              unfold toK at CW
              have CW := Lib.hid CW
              have HBK := Lib.hid HAS1.out.bk
              have HR1 := Lib.hid hr1; have HDE := Lib.hid hde; clear hr1 hde
              go_upto_region 20 with (first | ((with_reducible apply wpList_load_ky (h := HBK.out)); exact rfl; exact rfl; exact rfl) | (go_at_call 16; (with_reducible refine CW.out.mono ?_); rintro e V2 ⟨o2, rfl, ha2, hv2⟩) | ((with_reducible apply wpList_store_kynew (b := d) (s := o2)); exact rfl; exact rfl; exact rfl; exact rfl))
              have hn := below_new V2 (.cells (d.cells o2) 31)
              have HAS2 := Lib.hid ((HAS1.out.step hv2).step hn)
              have HKD := Lib.hid (KyAt.new V2 d o2)
              have HYD := Lib.hid (YAt.step ha2 hn)
              obtain ⟨V3, hV⟩ : ∃ V3, V2.alloc (.cells (d.cells o2) 31) = V3 := ⟨_, rfl⟩
              rw [hV] at HAS2 HKD HYD ⊢; clear hV hn ha2 hv2 HAS1 HBK CW ky2 ky3 ky4
              generalize V2.heap.size = qd at *
              by_cases h0 : ee = 0
              · subst h0
                obtain ⟨_, hd, hl⟩ | ⟨h7, _, _⟩ := withK_ok HDE.out
                · have HAP := Lib.hid (look_apart (xb := x.body) (ans := toK) HWF.out HX.out.2.2.1 HY.out.2.2.1 HNE.out hl)
                  rw [← hd, HR1.out] at HAP
                  have CL := Lib.hid (look_any (b := d) nw x.who x.key x.body HX.out.2.2.1 HYD.out)
                  have kx2 := HAS2.out.kx.k2; have kx3 := HAS2.out.kx.k3; have kx4 := HAS2.out.kx.k4
                  clear hd hl HWF HR1 HDE HYD
                  go_upto_region 22 with fail
                  go_upto_region 23 with (first | ((with_reducible apply wpList_load_ky (h := HKD.out)); exact rfl; exact rfl; exact rfl) | (go_at_call 14; (with_reducible refine CL.out.mono ?_); rintro e V4 ⟨rfl, hv4⟩))
                  have HB4 := Lib.hid (HAS2.out.bel.trans (hv4.mono HAS2.out.bel.size))
                  clear CL HAS2 HKD hv4 kx2 kx3 kx4
                  rcases HAP.out with e1 | ⟨e1, e2⟩
                  · rw [e1]
                    clear e1 HAP
                    go_wp2_with fail
                    go_ret
                    exact ⟨rfl, HB4.out⟩
                  · rw [e2]
                    injection e1 with e3 e4
                    subst e3 e4
                    clear e2 HAP
                    go_wp2_with fail
                    go_ret
                    exact ⟨rfl, HB4.out⟩
                · omega
              · have d1 : decide (ee = 0) = false := by simpa using h0
                have d2 : (ee != 0) = true := by simpa using h0
                have d3 : (ee == 0) = false := by simpa using h0
                clear h0
                go_wp2_with fail
                go_ret
                exact ⟨rfl, HAS2.out.bel⟩
            · go_wp2_with fail
              go_ret
              exact ⟨rfl, HAS.out.bel⟩
          · clear g4
            go_wp2_with fail
            go_ret
            exact ⟨rfl, HAS.out.bel⟩
      · have f1 : (x.who == y.who) = false := by simpa using h1
        have g1 : decide (x.who = y.who) = false := by simpa using h1
        have HNE : Hid (¬ (x.who = y.who ∧ x.key = y.key)) := Lib.hid (fun h => h1 h.1)
        have f2 : True := trivial
        have g2 : True := trivial
        clear h1
        have g3 : decide (40 < (x.body.size : Int)) = q3 := e3
        have g4 : decide (40 < (y.body.size : Int)) = q4 := e4
        clear e3 e4
        cases q3
        · cases q4
          · as_aux_lemma =>
            go_upto_region 18 with fail
            clear f1 g1 f2 g2 g3 g4
            have CL := Lib.hid (look_any (b := b) nw x.who x.key x.body HX.out.2.2.1 HAS.out.at_)
            have HBK := Lib.hid HAS.out.bk
            go_upto_region 19 with (first | ((with_reducible apply wpList_load_ky (h := HBK.out)); exact rfl; exact rfl; exact rfl) | (go_at_call 14; (with_reducible refine CL.out.mono ?_); rintro e V1 ⟨rfl, hv1⟩))
            have HAS1 := Lib.hid (HAS.out.step hv1); clear HAS HBK CL hv1 kx2 kx3 kx4 ky2 ky3 ky4
            have ky2 := HAS1.out.ky.k2; have ky3 := HAS1.out.ky.k3; have ky4 := HAS1.out.ky.k4
            obtain ⟨r1, hr1⟩ : ∃ r1, lookK b nw x.who x.key x.body = r1 := ⟨_, rfl⟩
            rw [hr1]
            obtain ⟨s1, v1⟩ := r1
            obtain ⟨d, ee, hde⟩ : ∃ d ee, withK b nw y.who y.key y.body toK = (d, ee) := ⟨_, _, rfl⟩
            have CW := keysWith_any nw y.who y.key y.body toK HY.out.2.2.1 HAS1.out.at_ HWF.out.fit
            rw [hde] at CW
            unfold toK at CW
            have CW := Lib.hid CW
            have HBK := Lib.hid HAS1.out.bk
            have HR1 := Lib.hid hr1; have HDE := Lib.hid hde; clear hr1 hde
            go_upto_region 20 with (first | ((with_reducible apply wpList_load_ky (h := HBK.out)); exact rfl; exact rfl; exact rfl) | (go_at_call 16; (with_reducible refine CW.out.mono ?_); rintro e V2 ⟨o2, rfl, ha2, hv2⟩) | ((with_reducible apply wpList_store_kynew (b := d) (s := o2)); exact rfl; exact rfl; exact rfl; exact rfl))
            have hn := below_new V2 (.cells (d.cells o2) 31)
            have HAS2 := Lib.hid ((HAS1.out.step hv2).step hn)
            have HKD := Lib.hid (KyAt.new V2 d o2)
            have HYD := Lib.hid (YAt.step ha2 hn)
            obtain ⟨V3, hV⟩ : ∃ V3, V2.alloc (.cells (d.cells o2) 31) = V3 := ⟨_, rfl⟩
            rw [hV] at HAS2 HKD HYD ⊢; clear hV hn ha2 hv2 HAS1 HBK CW ky2 ky3 ky4
            generalize V2.heap.size = qd at *
            by_cases h0 : ee = 0
            · subst h0
              obtain ⟨_, hd, hl⟩ | ⟨h7, _, _⟩ := withK_ok HDE.out
              · have HAP := Lib.hid (look_apart (xb := x.body) (ans := toK) HWF.out HX.out.2.2.1 HY.out.2.2.1 HNE.out hl)
                rw [← hd, HR1.out] at HAP
                have CL := Lib.hid (look_any (b := d) nw x.who x.key x.body HX.out.2.2.1 HYD.out)
                have kx2 := HAS2.out.kx.k2; have kx3 := HAS2.out.kx.k3; have kx4 := HAS2.out.kx.k4
                clear hd hl HWF HR1 HDE HYD
                go_upto_region 22 with fail
                go_upto_region 23 with (first | ((with_reducible apply wpList_load_ky (h := HKD.out)); exact rfl; exact rfl; exact rfl) | (go_at_call 14; (with_reducible refine CL.out.mono ?_); rintro e V4 ⟨rfl, hv4⟩))
                have HB4 := Lib.hid (HAS2.out.bel.trans (hv4.mono HAS2.out.bel.size))
                clear CL HAS2 HKD hv4 kx2 kx3 kx4
                rcases HAP.out with e1 | ⟨e1, e2⟩
                · rw [e1]
                  clear e1 HAP
                  go_wp2_with fail
                  go_ret
                  exact ⟨rfl, HB4.out⟩
                · rw [e2]
                  injection e1 with e3 e4
                  subst e3 e4
                  clear e2 HAP
                  go_wp2_with fail
                  go_ret
                  exact ⟨rfl, HB4.out⟩
              · omega
            · have d1 : decide (ee = 0) = false := by simpa using h0
              have d2 : (ee != 0) = true := by simpa using h0
              have d3 : (ee == 0) = false := by simpa using h0
              clear h0
              go_wp2_with fail
              go_ret
              exact ⟨rfl, HAS2.out.bel⟩
          · go_wp2_with fail
            go_ret
            exact ⟨rfl, HAS.out.bel⟩
        · clear g4
          go_wp2_with fail
          go_ret
          exact ⟨rfl, HAS.out.bel⟩
end Go.Proofs.Ytedogbkkophghaa
