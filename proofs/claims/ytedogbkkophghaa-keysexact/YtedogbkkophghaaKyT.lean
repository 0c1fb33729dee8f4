/- The document's own keys: Counts. -/
import Derived.Test.YtedogbkkophghaaKyR
namespace Go.Proofs.Ytedogbkkophghaa
open Go.RowKit Go.Lib
open Sh.Plain (KV get put Rise)
set_option linter.unusedVariables false
set_option linter.unusedSimpArgs false

/-- those that count, at a tick -/
def ralive (c : Cfg) (now : Int) (y : En) : Bool := decide (now ≤ stp y.key + c.get 6)
def rcnt (c : Cfg) (now : Int) (l : List En) : List En := l.filter (ralive c now)
theorem rcnt_take {c : Cfg} {now : Int} {l : List En} {j : Nat} {y : En} (h : l[j]? = some y) : rcnt c now (l.take (j + 1)) = if ralive c now y = true then rcnt c now (l.take j) ++ [y] else rcnt c now (l.take j) := by
  unfold rcnt
  rw [List.take_add_one, h, List.filter_append]
  simp only [Option.toList]
  split
  · next e => simp [List.filter, e]
  · next e => simp [List.filter, e]
/-- the state in the loop of Counts -/
structure RCS (w wx : World) (g B : Nat) (u : Ur) (O : Option Addr) (k : Nat) (rv : Value) (xs : List En) : Prop where
  bel : Below w.heap.size w wx
  uk : UrAt wx g u O k
  src : Sh.Own eN wx B (slv O u.l.length k) u.l
  slt : ∀ q, (slv O u.l.length k).ownBlock = some q → q < w.heap.size
  out : Sh.Own eN wx w.heap.size rv xs
theorem RCS.step {w W W' : World} {g B : Nat} {u : Ur} {O : Option Addr} {k : Nat} {rv : Value} {xs : List En} (h : RCS w W g B u O k rv xs) (hb : Below W.heap.size W W') : RCS w W' g B u O k rv xs :=
  ⟨h.bel.trans (hb.mono h.bel.size), At.step h.uk hb, h.src.below hb, h.slt, h.out.below hb⟩
theorem RCS.push {w W : World} {g B : Nat} {u : Ur} {O : Option Addr} {k : Nat} {rv : Value} {xs : List En} (h : RCS w W g B u O k rv xs) (x : En) (hn : xs.length ≤ 100000) (ty : TypeId) :
    ∃ rv' w', (Builtin.append_ #[33, 33] ty #[rv, .slice (some ⟨W.heap.size, 0, none⟩) 1 1]).run Try.prog (W.alloc (.cells x.cells 74)) = .ok rv' w' ∧ RCS w w' g B u O k rv' (xs ++ [x]) := by
  have hb := below_new W (.cells x.cells 74)
  have h1 := h.step hb
  obtain ⟨rv', w', hr, o', c', l'⟩ := h1.out.push (x := x) (b := W.heap.size) (off := 0) (cap := 1) h1.bel.size (fun j v hv => by
    rw [Nat.zero_add, (At.new W 74 x.cells).cell]
    simpa [eN] using hv) (by omega) ty
  exact ⟨rv', w', hr, ⟨h1.bel.trans (c'.below' h1.out h1.bel.size), At.chg h1.uk c' (fun e => own_ne h1.out h1.uk (by decide) e), h1.src.chg c' (fun q hq e => by have := h1.slt q hq; have := (h1.out.lt e).1; omega), h1.slt, o'⟩⟩
/-- what a call answers that makes a row of entries -/
def NPost (w : World) (xs : List En) (e : Ending) (w' : World) : Prop := ∃ v, e = .returned v ∧ Sh.Own eN w' w.heap.size v xs ∧ Below w.heap.size w w'
set_option maxRecDepth 100000 in
set_option maxHeartbeats 3200000 in
theorem rcounts_any {u : Ur} {O : Option Addr} {k B : Nat} {w : World} (now : Int) (hs : Sh.Own eN w B (slv O u.l.length k) u.l) (hk : ∀ y ∈ u.l, isU y.key) (hc : 0 ≤ u.c.get 6 ∧ u.c.get 6 ≤ 65536) (hl : u.l.length ≤ 1000) :
    Calls Try.prog 20 #[u.V O k, .int .i64 now] w (NPost w (rcnt u.c now u.l)) := by
  have H := Lib.hid (new2 w (u.cells O k) #[] 35 74)
  have hst : RCS w ((w.alloc (.cells (u.cells O k) 35)).alloc (.cells #[] 74)) w.heap.size B u O k (.slice (some ⟨w.heap.size + 1, 0, none⟩) 0 0) [] := by
    refine ⟨H.out.1, H.out.2.1, hs.below H.out.1, fun q hq => (hs.lt hq).2, ?_⟩
    have e : (w.alloc (.cells (u.cells O k) 35)).heap.size = w.heap.size + 1 := by simp
    have := Sh.Own.lit0 eN (w.alloc (.cells (u.cells O k) 35)) (B := w.heap.size) (by simp)
    rw [e] at this
    exact this
  have HST := Lib.hid hst; have HK := Lib.hid hk; have HC := Lib.hid hc; have HL := Lib.hid hl
  have CS := Lib.hid (fun k W (h : isU k) => rstamp_any k h W)
  clear hst hs hk hc hl H
  go_enter Try.func20, Try.ntmps20
  go_upto_region 2 with fail
  obtain ⟨W, hW⟩ : ∃ W, (w.alloc (.cells (u.cells O k) 35)).alloc (.cells #[] 74) = W := ⟨_, rfl⟩
  rw [hW] at HST ⊢; clear hW
  generalize Value.slice (some ⟨w.heap.size + 1, 0, none⟩) 0 0 = rv0 at *
  obtain ⟨n, hn⟩ : ∃ n, u.l.length = n := ⟨_, rfl⟩
  have HN := Lib.hid hn
  rw [hn] at HL
  clear hn
  go_wp2_with fail
  go_loopg [5, 6] n (fun gh s5 s6 wx => ∃ (j : Nat) (rv : Value), j ≤ n ∧ gh = n - j ∧ rv = s5 ∧ s6 = .int .i64 (j : Int) ∧ RCS w wx w.heap.size B u O k rv (rcnt u.c now (u.l.take j)))
  case atStart => exact ⟨0, _, Nat.zero_le _, rfl, rfl, rfl, HST.out⟩
  case round =>
    obtain ⟨j, rv, hj, hg, rfl, rfl, hst⟩ := hrel
    have HG := Lib.hid hg; have HS := Lib.hid hst; clear hg hst HST
    have b4 : (0 : Int) ≤ (j : Int) := by omega
    have k18 := HS.out.uk.k18
    unfold slv at k18
    rw [HN.out] at k18
    by_cases hlt : j < n
    · have b3 : (j : Int) < (n : Int) := by omega
      have hjl : j < u.l.length := by rw [HN.out]; exact hlt
      obtain ⟨y, hy⟩ : ∃ y, u.l[j]? = some y := ⟨_, List.getElem?_eq_getElem hjl⟩
      have hky := HK.out y (List.mem_of_getElem? hy)
      have HTK := Lib.hid (rcnt_take (c := u.c) (now := now) hy)
      obtain ⟨bb, off, rfl, hbb, hr⟩ := rowN_at HS.out.src.rd hy
      have HR := Lib.hid hr; have HBB := Lib.hid hbb; have HJ := Lib.hid hlt
      have hsu := stp_in hky
      have HY := Lib.hid hky
      obtain ⟨t, ht⟩ : ∃ t : Bool, ralive u.c now y = t := ⟨_, rfl⟩
      have D1 : Hid (decide (now ≤ stp y.key + u.c.get 6) = t) := Lib.hid ht
      have hw := HC.out
      have D2 : Hid (IntKind.i64.wrap (stp y.key + u.c.get 6) = stp y.key + u.c.get 6) := Lib.hid (IntWalk.i64_in _ (by omega))
      rw [ht] at HTK
      clear hr hbb hy hjl hlt hj hsu hky ht hw
      go_upto_region 5 with fail
      clear k18
      refine AnyOrder.region_kinds2 13 [.eq (.int .i64 now), .eq (ptr w.heap.size 18), .eq (.slice (some ⟨bb, off, none⟩) n k), .eq (.int .i64 (j : Int)), .eq (ptr bb (off + j * 4)), .eq (ptr bb (off + j * 4 + 1)), .eq (.int .u64 y.key), .eq (.int .i64 (stp y.key)), .eq (ptr w.heap.size 0), .eq (ptr w.heap.size 6), .eq (.int .i64 (u.c.get 6)), .eq (.int .i64 (stp y.key + u.c.get 6)), .eq (.bool t)] (fun wx => Below wr.heap.size wr wx) (by kernel_rfl) (by kernel_rfl) rfl (by kernel_rfl) (below_drewN (Below.refl _ _) 1) (fun p _ _ hp => by simp at hp) ?_ ?_
      · intro i o listed a1 w2 hin ho st hl hdep
        match i, ho with
        | 0, ho => (injection ho with ho; subst ho; have ec : ∀ v, a1.eval (.const v) = v := fun _ => rfl; have ef : ∀ f, a1.eval (.func f) = .func (.func f) #[] #[] := fun _ => rfl; have e0 : a1.eval (.tmp 1) = .int .i64 now := st.old hl 1 (by kernel_rfl); exact AnyOrder.step_value rfl (AnyOrder.wanted_none rfl) (.int .i64 now) (AnyOrder.run_move e0) st.inv (Below.refl _ _) rfl)
        | 1, ho => (injection ho with ho; subst ho; have ec : ∀ v, a1.eval (.const v) = v := fun _ => rfl; have ef : ∀ f, a1.eval (.func f) = .func (.func f) #[] #[] := fun _ => rfl; have e0 : a1.eval (.tmp 2) = ptr w.heap.size 0 := st.old hl 2 (by kernel_rfl); exact AnyOrder.step_value rfl (AnyOrder.wanted_none rfl) (ptr w.heap.size 18) (by generalize a1.eval = ρ at ec ef e0 ⊢; simp [execOp, ec, ef, e0, IntWalk.i64_left, go_sem]) st.inv (Below.refl _ _) rfl)
        | 2, ho => (injection ho with ho; subst ho; have ec : ∀ v, a1.eval (.const v) = v := fun _ => rfl; have ef : ∀ f, a1.eval (.func f) = .func (.func f) #[] #[] := fun _ => rfl; have e0 : a1.eval (.tmp 16) = ptr w.heap.size 18 := st.done 1 16 (hdep ⟨1, .data⟩ (by simp) rfl) rfl; exact AnyOrder.step_value rfl (AnyOrder.wanted_none rfl) (.slice (some ⟨bb, off, none⟩) n k) (by have hk := UrAt.k18 (At.step HS.out.uk st.inv); unfold slv at hk; rw [HN.out] at hk; generalize a1.eval = ρ at ec ef e0 ⊢; simp [execOp, e0, go_sem, hk]) st.inv (Below.refl _ _) rfl)
        | 3, ho => (injection ho with ho; subst ho; have ec : ∀ v, a1.eval (.const v) = v := fun _ => rfl; have ef : ∀ f, a1.eval (.func f) = .func (.func f) #[] #[] := fun _ => rfl; have e0 : a1.eval (.tmp 6) = .int .i64 (j : Int) := st.old hl 6 (by kernel_rfl); exact AnyOrder.step_value rfl (AnyOrder.wanted_none rfl) (.int .i64 (j : Int)) (AnyOrder.run_move e0) st.inv (Below.refl _ _) rfl)
        | 4, ho => (injection ho with ho; subst ho; have ec : ∀ v, a1.eval (.const v) = v := fun _ => rfl; have ef : ∀ f, a1.eval (.func f) = .func (.func f) #[] #[] := fun _ => rfl; have e0 : a1.eval (.tmp 17) = .slice (some ⟨bb, off, none⟩) n k := st.done 2 17 (hdep ⟨2, .data⟩ (by simp) rfl) rfl; have e1 : a1.eval (.tmp 18) = .int .i64 (j : Int) := st.done 3 18 (hdep ⟨3, .data⟩ (by simp) rfl) rfl; exact AnyOrder.step_value rfl (AnyOrder.wanted_none rfl) (ptr bb (off + j * 4)) (by generalize a1.eval = ρ at ec ef e0 e1 ⊢; simp [execOp, e0, e1, go_sem, b3, b4]) st.inv (Below.refl _ _) rfl)
        | 5, ho => (injection ho with ho; subst ho; have ec : ∀ v, a1.eval (.const v) = v := fun _ => rfl; have ef : ∀ f, a1.eval (.func f) = .func (.func f) #[] #[] := fun _ => rfl; have e0 : a1.eval (.tmp 19) = ptr bb (off + j * 4) := st.done 4 19 (hdep ⟨4, .data⟩ (by simp) rfl) rfl; exact AnyOrder.step_value rfl (AnyOrder.wanted_none rfl) (ptr bb (off + j * 4 + 1)) (by generalize a1.eval = ρ at ec ef e0 ⊢; simp [execOp, ec, ef, e0, IntWalk.i64_left, go_sem]) st.inv (Below.refl _ _) rfl)
        | 6, ho => (injection ho with ho; subst ho; have ec : ∀ v, a1.eval (.const v) = v := fun _ => rfl; have ef : ∀ f, a1.eval (.func f) = .func (.func f) #[] #[] := fun _ => rfl; have e0 : a1.eval (.tmp 20) = ptr bb (off + j * 4 + 1) := st.done 5 20 (hdep ⟨5, .data⟩ (by simp) rfl) rfl; exact AnyOrder.step_value rfl (AnyOrder.wanted_none rfl) (.int .u64 y.key) (by have hk := (En.rows (rng_below HR.out st.inv HBB.out)).2.1; generalize a1.eval = ρ at ec ef e0 ⊢; simp [execOp, e0, go_sem, hk]) st.inv (Below.refl _ _) rfl)
        | 7, ho => (injection ho with ho; subst ho; have ec : ∀ v, a1.eval (.const v) = v := fun _ => rfl; have ef : ∀ f, a1.eval (.func f) = .func (.func f) #[] #[] := fun _ => rfl; have e0 : a1.eval (.tmp 21) = .int .u64 y.key := st.done 6 21 (hdep ⟨6, .data⟩ (by simp) rfl) rfl; exact AnyOrder.step_call rfl (AnyOrder.wanted_none rfl) 13 #[.int .u64 y.key] (by generalize a1.eval = ρ at ec ef e0 ⊢; simp [execOp, ec, ef, e0, go_sem]) (((CS.out _ w2 HY.out).mono (fun e w4 h => (show e = .returned (.int .i64 (stp y.key)) ∧ Below w2.heap.size w2 w4 from ⟨h.1, h.2 ▸ Below.refl _ _⟩))).mono (fun e w3 h => by obtain ⟨rfl, hb⟩ := h; exact ⟨_, rfl, st.inv.trans (hb.mono st.inv.size), hb, rfl⟩)))
        | 8, ho => (injection ho with ho; subst ho; have ec : ∀ v, a1.eval (.const v) = v := fun _ => rfl; have ef : ∀ f, a1.eval (.func f) = .func (.func f) #[] #[] := fun _ => rfl; have e0 : a1.eval (.tmp 2) = ptr w.heap.size 0 := st.old hl 2 (by kernel_rfl); exact AnyOrder.step_value rfl (AnyOrder.wanted_none rfl) (ptr w.heap.size 0) (by generalize a1.eval = ρ at ec ef e0 ⊢; simp [execOp, ec, ef, e0, IntWalk.i64_left, go_sem]) st.inv (Below.refl _ _) rfl)
        | 9, ho => (injection ho with ho; subst ho; have ec : ∀ v, a1.eval (.const v) = v := fun _ => rfl; have ef : ∀ f, a1.eval (.func f) = .func (.func f) #[] #[] := fun _ => rfl; have e0 : a1.eval (.tmp 23) = ptr w.heap.size 0 := st.done 8 23 (hdep ⟨8, .data⟩ (by simp) rfl) rfl; exact AnyOrder.step_value rfl (AnyOrder.wanted_none rfl) (ptr w.heap.size 6) (by generalize a1.eval = ρ at ec ef e0 ⊢; simp [execOp, ec, ef, e0, IntWalk.i64_left, go_sem]) st.inv (Below.refl _ _) rfl)
        | 10, ho => (injection ho with ho; subst ho; have ec : ∀ v, a1.eval (.const v) = v := fun _ => rfl; have ef : ∀ f, a1.eval (.func f) = .func (.func f) #[] #[] := fun _ => rfl; have e0 : a1.eval (.tmp 24) = ptr w.heap.size 6 := st.done 9 24 (hdep ⟨9, .data⟩ (by simp) rfl) rfl; exact AnyOrder.step_value rfl (AnyOrder.wanted_none rfl) (.int .i64 (u.c.get 6)) (by have hk := UrAt.cget (At.step HS.out.uk st.inv) (j := 6) (by decide); generalize a1.eval = ρ at ec ef e0 ⊢; simp [execOp, e0, go_sem, hk]) st.inv (Below.refl _ _) rfl)
        | 11, ho => (injection ho with ho; subst ho; have ec : ∀ v, a1.eval (.const v) = v := fun _ => rfl; have ef : ∀ f, a1.eval (.func f) = .func (.func f) #[] #[] := fun _ => rfl; have e0 : a1.eval (.tmp 22) = .int .i64 (stp y.key) := st.done 7 22 (hdep ⟨7, .data⟩ (by simp) rfl) rfl; have e1 : a1.eval (.tmp 25) = .int .i64 (u.c.get 6) := st.done 10 25 (hdep ⟨10, .data⟩ (by simp) rfl) rfl; exact AnyOrder.step_value rfl (AnyOrder.wanted_none rfl) (.int .i64 (stp y.key + u.c.get 6)) (by generalize a1.eval = ρ at ec ef e0 e1 ⊢; simp [execOp, ec, ef, e0, e1, IntWalk.i64_left, D2.out, go_sem]) st.inv (Below.refl _ _) rfl)
        | 12, ho => (injection ho with ho; subst ho; have ec : ∀ v, a1.eval (.const v) = v := fun _ => rfl; have ef : ∀ f, a1.eval (.func f) = .func (.func f) #[] #[] := fun _ => rfl; have e0 : a1.eval (.tmp 15) = .int .i64 now := st.done 0 15 (hdep ⟨0, .data⟩ (by simp) rfl) rfl; have e1 : a1.eval (.tmp 26) = .int .i64 (stp y.key + u.c.get 6) := st.done 11 26 (hdep ⟨11, .data⟩ (by simp) rfl) rfl; exact AnyOrder.step_value rfl (AnyOrder.wanted_none rfl) (.bool t) (by generalize a1.eval = ρ at ec ef e0 e1 ⊢; simp [execOp, ec, ef, e0, e1, IntWalk.i64_left, D1.out, go_sem]) st.inv (Below.refl _ _) rfl)
        | n + 13, ho => exact absurd hin (by omega)
      · intro wy hJ
        simp only [AnyOrder.finK, List.take_succ_cons, List.take_zero, List.drop_succ_cons, List.drop_zero, Act.put, List.setIfInBounds_toArray, List.set_cons_zero, List.set_cons_succ]
        have HS2 := Lib.hid (HS.out.step hJ)
        have HR2 := Lib.hid (rng_below HR.out hJ HBB.out)
        clear HS hJ HR HBB D1 D2 HY
        cases t
        · go_wp2_with fail
          go_roundg (n - (j + 1))
          case measure => have := HG.out; have := HJ.out; omega
          case rel => exact ⟨j + 1, rv, by have := HJ.out; omega, rfl, rfl, (by have := HJ.out; have := HL.out; rw [IntWalk.wrap64_in _ (by omega)]; rfl), by rw [HTK.out]; exact HS2.out⟩
        · have k18 := HS2.out.uk.k18
          unfold slv at k18
          rw [HN.out] at k18
          obtain ⟨rv2, w8, hr8, hst8⟩ := HS2.out.push y (by
            have h1 : (rcnt u.c now (u.l.take j)).length ≤ (u.l.take j).length := List.length_filter_le ..
            rw [List.length_take] at h1
            have := HJ.out; have := HL.out; omega) 33
          have HR8 := Lib.hid hr8; have HS8 := Lib.hid hst8
          clear hr8 hst8 HS2
          go_wp2_with (first | ((with_reducible apply wpList_load_en (h := HR2.out)); exact rfl; exact rfl; exact rfl) | ((with_reducible apply wpList_slice_en (c := y)); exact rfl; exact rfl; exact rfl) | (at_builtin; (refine Lib.wpList_append_run _ rfl (.tmp 28) (.tmp 34) 33 33 rfl _ _ rfl rfl rv2 w8 HR8.out ?_)))
          go_roundg (n - (j + 1))
          case measure => have := HG.out; have := HJ.out; omega
          case rel => exact ⟨j + 1, rv2, by have := HJ.out; omega, rfl, rfl, (by have := HJ.out; have := HL.out; rw [IntWalk.wrap64_in _ (by omega)]; rfl), by rw [HTK.out]; exact HS8.out⟩
    · obtain rfl : j = n := by omega
      have b3 : ¬ (j : Int) < (j : Int) := by omega
      clear hlt hj HG HK HC HL CS
      go_wp2_with fail
      go_ret
      refine ⟨rv, rfl, ?_, HS.out.bel⟩
      have := HS.out.out
      rw [← HN.out, List.take_length] at this
      exact this
end Go.Proofs.Ytedogbkkophghaa
