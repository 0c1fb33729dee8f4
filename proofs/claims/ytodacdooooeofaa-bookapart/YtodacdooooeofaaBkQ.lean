/- Who cancels first plays no part: the walk. -/
import Derived.Test.YtodacdooooeofaaBkP
namespace Go.Proofs.Ytodacdooooeofaa
open Go.RowKit Go.Lib
open Sh.Plain (KV get put del Rise)
set_option linter.unusedVariables false
set_option linter.unusedSimpArgs false

theorem run_alloc39 {ρ : Operand → Value} {w : World} {d : Option Tmp} {t : TypeId} {pos : String} {af : Array Edge} {gd : Option (Nat × Bool)} : (execOp ρ { dst := d, op := Op.alloc 39, type := t, pos := pos, after := af, guard := gd }).run Try.prog w = .ok (.value (ptr w.heap.size 0)) (w.alloc (.cells zg.cells 39)) := by
  simp [execOp, go_sem]
  rfl
/-- what a deed answers, as a tuple -/
def TrAt (b : Bk) (x : Cg) (n : Int) (v : Value) (w : World) : Prop := ∃ o p, v = .tuple #[b.V o p, x.V, .int .i64 n] ∧ BAt w b o p
theorem TrAt.keep {b : Bk} {x : Cg} {n : Int} {v : Value} {w w' : World} (h : TrAt b x n v w) (hb : Below w.heap.size w w') : TrAt b x n v w' := by
  obtain ⟨o, p, rfl, h⟩ := h
  exact ⟨o, p, rfl, h.step hb⟩
theorem Dd.at_ {w : World} {b off : Nat} {y : Dd} (h : w.rangeAt b off y.cells.toList) : w.cell? ⟨b, off, none⟩ = some (.int .i64 y.kind) ∧ w.rangeAt b (off + 1) y.x.cells.toList ∧ w.cell? ⟨b, off + 9, none⟩ = some (.int .i64 y.n) ∧ w.cell? ⟨b, off + 10, none⟩ = some (.int .i64 y.m) ∧ w.rangeAt b (off + 11) y.ch.cells.toList := by
  refine ⟨h 0 _ rfl, fun j u hu => ?_, h 9 _ rfl, h 10 _ rfl, fun j u hu => ?_⟩
  · have hj : j < 8 := (List.getElem?_eq_some_iff.1 hu).1
    have e : y.cells.toList[1 + j]? = some u := by
      match j, hj with
      | 0, _ => exact hu
      | 1, _ => exact hu
      | 2, _ => exact hu
      | 3, _ => exact hu
      | 4, _ => exact hu
      | 5, _ => exact hu
      | 6, _ => exact hu
      | 7, _ => exact hu
    have := h (1 + j) u e
    rwa [← Nat.add_assoc] at this
  · have hj : j < 11 := (List.getElem?_eq_some_iff.1 hu).1
    have e : y.cells.toList[11 + j]? = some u := by
      match j, hj with
      | 0, _ => exact hu
      | 1, _ => exact hu
      | 2, _ => exact hu
      | 3, _ => exact hu
      | 4, _ => exact hu
      | 5, _ => exact hu
      | 6, _ => exact hu
      | 7, _ => exact hu
      | 8, _ => exact hu
      | 9, _ => exact hu
      | 10, _ => exact hu
    have := h (11 + j) u e
    rwa [← Nat.add_assoc] at this
theorem mode_num (mo : Int) (h : inI64 mo) : ∃ md : Int, wrap64 (1 + wrap64 ((IntKind.u64.wrap mo).tmod 2)) = md ∧ (md = 1 ∨ md = 2) := by
  have h0 : 0 ≤ IntKind.u64.wrap mo := by
    simp only [IntKind.wrap, IntKind.signed, IntKind.bits]
    simp
    omega
  generalize IntKind.u64.wrap mo = z at *
  have e : z.tmod 2 = z % 2 := Int.tmod_eq_emod_of_nonneg h0
  rw [e]
  have : z % 2 = 0 ∨ z % 2 = 1 := by omega
  rcases this with e | e <;> rw [e]
  · exact ⟨1, by rw [show wrap64 0 = 0 from wrap_in (by omega) (by omega)]; exact wrap_in (by omega) (by omega), .inl rfl⟩
  · exact ⟨2, by rw [show wrap64 1 = 1 from wrap_in (by omega) (by omega)]; exact wrap_in (by omega) (by omega), .inr rfl⟩
/-- a book in a block of its own -/
structure AS (w wx : World) (q : Nat) (s : Bk) (o p : Option Addr) : Prop where
  bel : Below w.heap.size w wx
  bk : BkAt wx q s o p
  at_ : BAt wx s o p
  lo : w.heap.size ≤ q
theorem AS.step {w W W' : World} {q : Nat} {s : Bk} {o p : Option Addr} (h : AS w W q s o p) (hb : Below W.heap.size W W') : AS w W' q s o p := ⟨h.bel.trans (hb.mono h.bel.size), h.bk.step hb, h.at_.step hb, h.lo⟩
theorem AS.put {w W : World} {q : Nat} {s d : Bk} {o p o' p' : Option Addr} (h : AS w W q s o p) (hd : BAt W d o' p') : AS w (W.setRow q (d.cells o' p')) q d o' p' :=
  ⟨setRow_below h.bel h.lo _, At.setRow h.bk _, hd.farRow h.bk (by decide) (by decide), h.lo⟩
/-- two answers stored in new blocks -/
theorem AS.two {w W : World} {q q1 r1 : Nat} {s d : Bk} {o p o' p' : Option Addr} {x : Cg} (h : AS w W q s o p) (ha : BAt W d o' p') (h1 : BkAt W q1 zb none none) (h2 : CgAt W r1 zg) (l1 : q < q1) (l2 : q < r1) :
    AS w ((W.setRow q1 (d.cells o' p')).setRow r1 x.cells) q s o p ∧ BkAt ((W.setRow q1 (d.cells o' p')).setRow r1 x.cells) q1 d o' p' ∧ BAt ((W.setRow q1 (d.cells o' p')).setRow r1 x.cells) d o' p' := by
  have n12 : q1 ≠ r1 := At.ne h1 h2 (by decide)
  have hr : CgAt (W.setRow q1 (d.cells o' p')) r1 zg := At.farRow h2 (Ne.symm n12)
  have lw := h.lo
  refine ⟨⟨setRow_below (setRow_below h.bel (by omega) _) (by omega) _, (h.bk.farRow (by omega)).farRow (by omega), (h.at_.farRow h1 (by decide) (by decide)).farRow hr (by decide) (by decide), h.lo⟩, (At.setRow h1 _).farRow n12, (ha.farRow h1 (by decide) (by decide)).farRow hr (by decide) (by decide)⟩
set_option maxRecDepth 100000 in
set_option maxHeartbeats 6000000 in
theorem apart_walk (c : Cfg) (A : Option Addr) (cap : Nat) (ds : List Dd) (i1 i2 mo : Int) (w : World) (hA : DdsAt w w.heap.size A ds) (hl : ds.length ≤ maxLen) (hm : inI64 mo) : Calls Try.prog 4 #[c.V, .slice A ds.length cap, .int .i64 i1, .int .i64 i2, .int .i64 mo] w (Yes w true) := by
  have H := Lib.hid (new1 w c.cells 24)
  have HA := Lib.hid hA; have HM := Lib.hid hm; clear hA hm
  have HL : Hid (ds.length ≤ 9223372036854775807) := Lib.hid (by unfold maxLen at hl; omega)
  clear hl
  obtain ⟨N, hN⟩ : ∃ N, ds.length = N := ⟨_, rfl⟩
  rw [hN] at HL ⊢
  have HN := Lib.hid hN; clear hN
  have CA := Lib.hid awake_any
  have CN := Lib.hid (newBook_any c)
  go_enter Try.func4, Try.ntmps4
  go_upto_region 1 with fail
  obtain ⟨W, hW⟩ : ∃ W, w.alloc (.cells c.cells 24) = W := ⟨_, rfl⟩
  rw [hW] at H ⊢; clear hW
  go_upto_region 3 with (go_at_call 5; (with_reducible refine (CA.out _).mono ?_); rintro e W1 ⟨rfl, hb1⟩)
  have HC : Hid (CAt W1 w.heap.size c) := Lib.hid (At.step H.out.2 hb1)
  have HB := Lib.hid (H.out.1.trans (hb1.mono H.out.1.size)); clear H CA hb1
  go_upto_region 4 with (first | ((with_reducible apply wpList_load_cat (h := HC.out)); exact rfl; exact rfl; exact rfl) | (go_at_call 6; (with_reducible refine (CN.out _).mono ?_); rintro e v0 ⟨o0, p0, rfl, ha0, hb0⟩; have HQ : Hid (BkAt (v0.alloc (.cells Z29 32)) v0.heap.size zb none none) := Lib.hid (new1 v0 Z29 32).2) | ((with_reducible apply wpList_store_bk (b := newB c) (s := o0) (t := p0) (hq := HQ.out)); exact rfl; exact rfl; exact rfl; exact rfl))
  obtain ⟨bm0, hbk0⟩ := made1 v0 (newB c) o0 p0
  have has0 : AS w ((v0.alloc (.cells Z29 32)).setRow v0.heap.size ((newB c).cells o0 p0)) v0.heap.size (newB c) o0 p0 := by
    have h1 := HB.out.trans (hb0.mono HB.out.size)
    exact ⟨h1.trans (bm0.mono h1.size), hbk0, BAt.step ha0 bm0, h1.size⟩
  obtain ⟨W2, hW⟩ : ∃ W2, (v0.alloc (.cells Z29 32)).setRow v0.heap.size ((newB c).cells o0 p0) = W2 := ⟨_, rfl⟩
  rw [hW] at has0 ⊢; clear hW bm0 hbk0 ha0 hb0 HQ HB HC CN
  have HAS := Lib.hid has0; clear has0
  generalize v0.heap.size = q at *
  have HPL := Lib.hid (Pl.new c)
  generalize newB c = s0 at *
  go_wp2_with fail
  go_loopg [12] N (fun gh s12 wx => ∃ (j : Nat) (s : Bk) (o p : Option Addr), j ≤ N ∧ j ≤ 60 ∧ gh = N - j ∧ s12 = .int .i64 (j : Int) ∧ AS w wx q s o p ∧ Pl s j)
  case atStart => exact ⟨0, s0, o0, p0, Nat.zero_le _, by omega, rfl, rfl, HAS.out, HPL.out⟩
  case round =>
    obtain ⟨j, s, o, p, hj, hj60, hg, rfl, has, hpl⟩ := hrel
    have HG := Lib.hid hg; clear hg HAS HPL
    have HAS := Lib.hid has; have HPL := Lib.hid hpl; clear has hpl
    have b4 : (0 : Int) ≤ (j : Int) := by omega
    by_cases hlt : j < N ∧ j < 60
    · obtain ⟨b1, o1, rfl, l1, k1⟩ := HA.out j (by rw [HN.out]; exact hlt.1)
      have b3 : (j : Int) < (N : Int) := by omega
      have b6 : (j : Int) < 60 := by omega
      have HJ := Lib.hid hlt; clear hlt
      have kb := HAS.out.bel
      have KR := Lib.hid (rng_below k1 l1 kb)
      have L1 : Hid (b1 < wr.heap.size) := Lib.hid (Nat.lt_of_lt_of_le l1 kb.size)
      clear k1 l1 kb
      generalize ds.getD j zd = y at *
      have kk := (Dd.at_ KR.out).1
      by_cases hk : y.kind = 1 ∨ y.kind = 2
      · obtain ⟨t1, t2, d1, d2, n1, n2, q1, q2, ht⟩ : ∃ t1 t2 : Bool, decide (y.kind = 1) = t1 ∧ decide (y.kind = 2) = t2 ∧ (y.kind != 1) = !t1 ∧ (y.kind != 2) = !t2 ∧ (y.kind == 1) = t1 ∧ (y.kind == 2) = t2 ∧ (t1 || t2) = true := ⟨_, _, rfl, rfl, rfl, rfl, rfl, rfl, by simpa using hk⟩
        have HT := Lib.hid ht; clear ht hk
        have CP := Lib.hid (fun (W : World) (hb : BAt W s o p) => placeBk_any (x := y.x) (n := y.n) (m := y.m) hb HPL.out.ok)
        obtain ⟨⟨d, g, e⟩, hr⟩ : ∃ r, placeB s y.x y.n y.m = r := ⟨_, rfl⟩
        rw [hr] at CP
        have HR := Lib.hid hr; clear hr
        cases t1 <;> cases t2
        case false.false => exact absurd HT.out (by decide)
        case true.true => exact absurd ((of_decide_eq_true d1).symm.trans (of_decide_eq_true d2)) (by decide)
        all_goals
          go_upto_region 8 with fail
          refine wp_region_noPanic ?_
          refine AnyOrder.region_late 23 [.eq (s.V o p), .eq (.slice (some ⟨b1, o1, none⟩) N cap), .eq (.int .i64 (j : Int)), .eq (ptr b1 (o1 + j * 22)), .eq (ptr b1 (o1 + j * 22 + 1)), .eq (y.x.V), .eq (.slice (some ⟨b1, o1, none⟩) N cap), .eq (.int .i64 (j : Int)), .eq (ptr b1 (o1 + j * 22)), .eq (ptr b1 (o1 + j * 22 + 9)), .eq (.int .i64 y.n), .eq (.slice (some ⟨b1, o1, none⟩) N cap), .eq (.int .i64 (j : Int)), .eq (ptr b1 (o1 + j * 22)), .eq (ptr b1 (o1 + j * 22 + 10)), .eq (.int .i64 y.m), .of (TrAt d g e), .of (TrAt d g e), .of (BvAt d), .eq (g.V), .eq (.int .i64 e), .of (AnyOrder.Fresh wr 32 (zb.cells none none)), .of (AnyOrder.Fresh wr 39 zg.cells)] [19, 20] (fun wx => Below wr.heap.size wr wx) (by kernel_rfl) (by kernel_rfl) rfl (by kernel_rfl) (by kernel_rfl) (fun _ _ _ _ _ h => h) (below_drewN (Below.refl _ _) 1) (by intro p wa wb hp hj hb v hv; simp at hp; rcases hp with rfl | rfl | rfl | rfl | rfl <;> (first | exact TrAt.keep hv hb | exact TrAt.keep hv hb | exact BvAt.keep hv hb | exact AnyOrder.Fresh.keep hv hb | exact AnyOrder.Fresh.keep hv hb | fail)) ?_ ?_ ?_
          · intro f o hL ho
            have hL : f = 19 ∨ f = 20 := by simpa using hL
            rcases hL with rfl | rfl
            · injection ho with ho; subst ho; exact ⟨_, rfl, rfl, fun a w hd w9 => by obtain ⟨o4, p4, e18, h18⟩ := hd 17 66 (by decide) (by decide) rfl; generalize a.eval = ρ at e18 ⊢; simp [execOp, e18, go_sem]⟩
            · injection ho with ho; subst ho; exact ⟨_, rfl, rfl, fun a w hd w9 => by obtain ⟨o4, p4, e18, h18⟩ := hd 17 66 (by decide) (by decide) rfl; generalize a.eval = ρ at e18 ⊢; simp [execOp, e18, go_sem]⟩
          · intro i o listed a1 w2 hin ho st hl hdep
            match i, ho with
            | 0, ho => (injection ho with ho; subst ho; have ec : ∀ v, a1.eval (.const v) = v := fun _ => rfl; have ef : ∀ f, a1.eval (.func f) = .func (.func f) #[] #[] := fun _ => rfl; have e0 : a1.eval (.tmp 11) = ptr q 0 := st.old hl 11 (by kernel_rfl); exact AnyOrder.step_value rfl (AnyOrder.wanted_none rfl) (s.V o p) (run_load_bk e0 (At.step HAS.out.bk st.inv)) st.inv (Below.refl _ _) rfl)
            | 1, ho => (injection ho with ho; subst ho; have ec : ∀ v, a1.eval (.const v) = v := fun _ => rfl; have ef : ∀ f, a1.eval (.func f) = .func (.func f) #[] #[] := fun _ => rfl; have e0 : a1.eval (.tmp 1) = .slice (some ⟨b1, o1, none⟩) N cap := st.old hl 1 (by kernel_rfl); exact AnyOrder.step_value rfl (AnyOrder.wanted_none rfl) (.slice (some ⟨b1, o1, none⟩) N cap) (AnyOrder.run_move e0) st.inv (Below.refl _ _) rfl)
            | 2, ho => (injection ho with ho; subst ho; have ec : ∀ v, a1.eval (.const v) = v := fun _ => rfl; have ef : ∀ f, a1.eval (.func f) = .func (.func f) #[] #[] := fun _ => rfl; have e0 : a1.eval (.tmp 12) = .int .i64 (j : Int) := st.old hl 12 (by kernel_rfl); exact AnyOrder.step_value rfl (AnyOrder.wanted_none rfl) (.int .i64 (j : Int)) (AnyOrder.run_move e0) st.inv (Below.refl _ _) rfl)
            | 3, ho => (injection ho with ho; subst ho; have ec : ∀ v, a1.eval (.const v) = v := fun _ => rfl; have ef : ∀ f, a1.eval (.func f) = .func (.func f) #[] #[] := fun _ => rfl; have e0 : a1.eval (.tmp 68) = .slice (some ⟨b1, o1, none⟩) N cap := st.done 1 68 (hdep ⟨1, .data⟩ (by simp) rfl) rfl; have e1 : a1.eval (.tmp 69) = .int .i64 (j : Int) := st.done 2 69 (hdep ⟨2, .data⟩ (by simp) rfl) rfl; exact AnyOrder.step_value rfl (AnyOrder.wanted_none rfl) (ptr b1 (o1 + j * 22)) (by generalize a1.eval = ρ at ec ef e0 e1 ⊢; simp [execOp, e0, e1, go_sem, b3, b4]) st.inv (Below.refl _ _) rfl)
            | 4, ho => (injection ho with ho; subst ho; have ec : ∀ v, a1.eval (.const v) = v := fun _ => rfl; have ef : ∀ f, a1.eval (.func f) = .func (.func f) #[] #[] := fun _ => rfl; have e0 : a1.eval (.tmp 70) = ptr b1 (o1 + j * 22) := st.done 3 70 (hdep ⟨3, .data⟩ (by simp) rfl) rfl; exact AnyOrder.step_value rfl (AnyOrder.wanted_none rfl) (ptr b1 (o1 + j * 22 + 1)) (by generalize a1.eval = ρ at ec ef e0 ⊢; simp [execOp, ec, ef, e0, IntWalk.i64_left, go_sem]) st.inv (Below.refl _ _) rfl)
            | 5, ho => (injection ho with ho; subst ho; have ec : ∀ v, a1.eval (.const v) = v := fun _ => rfl; have ef : ∀ f, a1.eval (.func f) = .func (.func f) #[] #[] := fun _ => rfl; have e0 : a1.eval (.tmp 71) = ptr b1 (o1 + j * 22 + 1) := st.done 4 71 (hdep ⟨4, .data⟩ (by simp) rfl) rfl; exact AnyOrder.step_value rfl (AnyOrder.wanted_none rfl) (y.x.V) (run_load_kp e0 (rng_below (Dd.at_ KR.out).2.1 L1.out st.inv)) st.inv (Below.refl _ _) rfl)
            | 6, ho => (injection ho with ho; subst ho; have ec : ∀ v, a1.eval (.const v) = v := fun _ => rfl; have ef : ∀ f, a1.eval (.func f) = .func (.func f) #[] #[] := fun _ => rfl; have e0 : a1.eval (.tmp 1) = .slice (some ⟨b1, o1, none⟩) N cap := st.old hl 1 (by kernel_rfl); exact AnyOrder.step_value rfl (AnyOrder.wanted_none rfl) (.slice (some ⟨b1, o1, none⟩) N cap) (AnyOrder.run_move e0) st.inv (Below.refl _ _) rfl)
            | 7, ho => (injection ho with ho; subst ho; have ec : ∀ v, a1.eval (.const v) = v := fun _ => rfl; have ef : ∀ f, a1.eval (.func f) = .func (.func f) #[] #[] := fun _ => rfl; have e0 : a1.eval (.tmp 12) = .int .i64 (j : Int) := st.old hl 12 (by kernel_rfl); exact AnyOrder.step_value rfl (AnyOrder.wanted_none rfl) (.int .i64 (j : Int)) (AnyOrder.run_move e0) st.inv (Below.refl _ _) rfl)
            | 8, ho => (injection ho with ho; subst ho; have ec : ∀ v, a1.eval (.const v) = v := fun _ => rfl; have ef : ∀ f, a1.eval (.func f) = .func (.func f) #[] #[] := fun _ => rfl; have e0 : a1.eval (.tmp 73) = .slice (some ⟨b1, o1, none⟩) N cap := st.done 6 73 (hdep ⟨6, .data⟩ (by simp) rfl) rfl; have e1 : a1.eval (.tmp 74) = .int .i64 (j : Int) := st.done 7 74 (hdep ⟨7, .data⟩ (by simp) rfl) rfl; exact AnyOrder.step_value rfl (AnyOrder.wanted_none rfl) (ptr b1 (o1 + j * 22)) (by generalize a1.eval = ρ at ec ef e0 e1 ⊢; simp [execOp, e0, e1, go_sem, b3, b4]) st.inv (Below.refl _ _) rfl)
            | 9, ho => (injection ho with ho; subst ho; have ec : ∀ v, a1.eval (.const v) = v := fun _ => rfl; have ef : ∀ f, a1.eval (.func f) = .func (.func f) #[] #[] := fun _ => rfl; have e0 : a1.eval (.tmp 75) = ptr b1 (o1 + j * 22) := st.done 8 75 (hdep ⟨8, .data⟩ (by simp) rfl) rfl; exact AnyOrder.step_value rfl (AnyOrder.wanted_none rfl) (ptr b1 (o1 + j * 22 + 9)) (by generalize a1.eval = ρ at ec ef e0 ⊢; simp [execOp, ec, ef, e0, IntWalk.i64_left, go_sem]) st.inv (Below.refl _ _) rfl)
            | 10, ho => (injection ho with ho; subst ho; have ec : ∀ v, a1.eval (.const v) = v := fun _ => rfl; have ef : ∀ f, a1.eval (.func f) = .func (.func f) #[] #[] := fun _ => rfl; have e0 : a1.eval (.tmp 76) = ptr b1 (o1 + j * 22 + 9) := st.done 9 76 (hdep ⟨9, .data⟩ (by simp) rfl) rfl; exact AnyOrder.step_value rfl (AnyOrder.wanted_none rfl) (.int .i64 y.n) (by have hk := (st.inv.cell (p := ⟨b1, _, none⟩) L1.out).trans (Dd.at_ KR.out).2.2.1; generalize a1.eval = ρ at ec ef e0 ⊢; simp [execOp, e0, go_sem, hk]) st.inv (Below.refl _ _) rfl)
            | 11, ho => (injection ho with ho; subst ho; have ec : ∀ v, a1.eval (.const v) = v := fun _ => rfl; have ef : ∀ f, a1.eval (.func f) = .func (.func f) #[] #[] := fun _ => rfl; have e0 : a1.eval (.tmp 1) = .slice (some ⟨b1, o1, none⟩) N cap := st.old hl 1 (by kernel_rfl); exact AnyOrder.step_value rfl (AnyOrder.wanted_none rfl) (.slice (some ⟨b1, o1, none⟩) N cap) (AnyOrder.run_move e0) st.inv (Below.refl _ _) rfl)
            | 12, ho => (injection ho with ho; subst ho; have ec : ∀ v, a1.eval (.const v) = v := fun _ => rfl; have ef : ∀ f, a1.eval (.func f) = .func (.func f) #[] #[] := fun _ => rfl; have e0 : a1.eval (.tmp 12) = .int .i64 (j : Int) := st.old hl 12 (by kernel_rfl); exact AnyOrder.step_value rfl (AnyOrder.wanted_none rfl) (.int .i64 (j : Int)) (AnyOrder.run_move e0) st.inv (Below.refl _ _) rfl)
            | 13, ho => (injection ho with ho; subst ho; have ec : ∀ v, a1.eval (.const v) = v := fun _ => rfl; have ef : ∀ f, a1.eval (.func f) = .func (.func f) #[] #[] := fun _ => rfl; have e0 : a1.eval (.tmp 78) = .slice (some ⟨b1, o1, none⟩) N cap := st.done 11 78 (hdep ⟨11, .data⟩ (by simp) rfl) rfl; have e1 : a1.eval (.tmp 79) = .int .i64 (j : Int) := st.done 12 79 (hdep ⟨12, .data⟩ (by simp) rfl) rfl; exact AnyOrder.step_value rfl (AnyOrder.wanted_none rfl) (ptr b1 (o1 + j * 22)) (by generalize a1.eval = ρ at ec ef e0 e1 ⊢; simp [execOp, e0, e1, go_sem, b3, b4]) st.inv (Below.refl _ _) rfl)
            | 14, ho => (injection ho with ho; subst ho; have ec : ∀ v, a1.eval (.const v) = v := fun _ => rfl; have ef : ∀ f, a1.eval (.func f) = .func (.func f) #[] #[] := fun _ => rfl; have e0 : a1.eval (.tmp 80) = ptr b1 (o1 + j * 22) := st.done 13 80 (hdep ⟨13, .data⟩ (by simp) rfl) rfl; exact AnyOrder.step_value rfl (AnyOrder.wanted_none rfl) (ptr b1 (o1 + j * 22 + 10)) (by generalize a1.eval = ρ at ec ef e0 ⊢; simp [execOp, ec, ef, e0, IntWalk.i64_left, go_sem]) st.inv (Below.refl _ _) rfl)
            | 15, ho => (injection ho with ho; subst ho; have ec : ∀ v, a1.eval (.const v) = v := fun _ => rfl; have ef : ∀ f, a1.eval (.func f) = .func (.func f) #[] #[] := fun _ => rfl; have e0 : a1.eval (.tmp 81) = ptr b1 (o1 + j * 22 + 10) := st.done 14 81 (hdep ⟨14, .data⟩ (by simp) rfl) rfl; exact AnyOrder.step_value rfl (AnyOrder.wanted_none rfl) (.int .i64 y.m) (by have hk := (st.inv.cell (p := ⟨b1, _, none⟩) L1.out).trans (Dd.at_ KR.out).2.2.2.1; generalize a1.eval = ρ at ec ef e0 ⊢; simp [execOp, e0, go_sem, hk]) st.inv (Below.refl _ _) rfl)
            | 16, ho => (injection ho with ho; subst ho; have ec : ∀ v, a1.eval (.const v) = v := fun _ => rfl; have ef : ∀ f, a1.eval (.func f) = .func (.func f) #[] #[] := fun _ => rfl; have e0 : a1.eval (.tmp 67) = s.V o p := st.done 0 67 (hdep ⟨0, .data⟩ (by simp) rfl) rfl; have e1 : a1.eval (.tmp 72) = y.x.V := st.done 5 72 (hdep ⟨5, .data⟩ (by simp) rfl) rfl; have e2 : a1.eval (.tmp 77) = .int .i64 y.n := st.done 10 77 (hdep ⟨10, .data⟩ (by simp) rfl) rfl; have e3 : a1.eval (.tmp 82) = .int .i64 y.m := st.done 15 82 (hdep ⟨15, .data⟩ (by simp) rfl) rfl; exact AnyOrder.step_call rfl (AnyOrder.wanted_none rfl) 9 #[s.V o p, y.x.V, .int .i64 y.n, .int .i64 y.m] (by generalize a1.eval = ρ at ec ef e0 e1 e2 e3 ⊢; simp [execOp, ec, ef, e0, e1, e2, e3, go_sem]) ((CP.out _ (HAS.out.step st.inv).at_).mono (fun e w4 h => by obtain ⟨o4, p4, rfl, ha, hb⟩ := h; exact ⟨_, rfl, st.inv.trans (hb.mono st.inv.size), hb, o4, p4, rfl, ha⟩)))
            | 17, ho => (injection ho with ho; subst ho; have ec : ∀ v, a1.eval (.const v) = v := fun _ => rfl; have ef : ∀ f, a1.eval (.func f) = .func (.func f) #[] #[] := fun _ => rfl; have e0 := st.done 16 83 (hdep ⟨16, .data⟩ (by simp) rfl) rfl; obtain ⟨v18, e18⟩ : ∃ v, a1.eval (.tmp 83) = v := ⟨_, rfl⟩; rw [e18] at e0; exact AnyOrder.step_value rfl (AnyOrder.wanted_none rfl) v18 (AnyOrder.run_move e18) st.inv (Below.refl _ _) e0)
            | 18, ho => (injection ho with ho; subst ho; have ec : ∀ v, a1.eval (.const v) = v := fun _ => rfl; have ef : ∀ f, a1.eval (.func f) = .func (.func f) #[] #[] := fun _ => rfl; have e0 := st.done 17 66 (hdep ⟨17, .data⟩ (by simp) rfl) rfl; obtain ⟨o4, p4, e18, h18⟩ := e0; exact AnyOrder.step_value rfl (AnyOrder.wanted_none rfl) (d.V o4 p4) (by generalize a1.eval = ρ at ec ef e18 ⊢; simp [execOp, e18, go_sem]) st.inv (Below.refl _ _) ⟨o4, p4, rfl, h18⟩)
            | 19, ho => (injection ho with ho; subst ho; have ec : ∀ v, a1.eval (.const v) = v := fun _ => rfl; have ef : ∀ f, a1.eval (.func f) = .func (.func f) #[] #[] := fun _ => rfl; have e0 := st.done 17 66 (hdep ⟨17, .data⟩ (by simp) rfl) rfl; obtain ⟨o4, p4, e18, h18⟩ := e0; exact AnyOrder.step_value rfl (AnyOrder.wanted_none rfl) _ (by generalize a1.eval = ρ at ec ef e18 ⊢; simp [execOp, e18, go_sem]) st.inv (Below.refl _ _) rfl)
            | 20, ho => (injection ho with ho; subst ho; have ec : ∀ v, a1.eval (.const v) = v := fun _ => rfl; have ef : ∀ f, a1.eval (.func f) = .func (.func f) #[] #[] := fun _ => rfl; have e0 := st.done 17 66 (hdep ⟨17, .data⟩ (by simp) rfl) rfl; obtain ⟨o4, p4, e18, h18⟩ := e0; exact AnyOrder.step_value rfl (AnyOrder.wanted_none rfl) _ (by generalize a1.eval = ρ at ec ef e18 ⊢; simp [execOp, e18, go_sem]) st.inv (Below.refl _ _) rfl)
            | 21, ho => (injection ho with ho; subst ho; have ec : ∀ v, a1.eval (.const v) = v := fun _ => rfl; have ef : ∀ f, a1.eval (.func f) = .func (.func f) #[] #[] := fun _ => rfl; exact AnyOrder.step_value rfl (AnyOrder.wanted_none rfl) (ptr w2.heap.size 0) run_alloc32 (st.inv.alloc st.inv.size _) (below_new _ _) ⟨_, rfl, st.inv.size, by simp, heap_alloc_new _ _⟩)
            | 22, ho => (injection ho with ho; subst ho; have ec : ∀ v, a1.eval (.const v) = v := fun _ => rfl; have ef : ∀ f, a1.eval (.func f) = .func (.func f) #[] #[] := fun _ => rfl; exact AnyOrder.step_value rfl (AnyOrder.wanted_none rfl) (ptr w2.heap.size 0) run_alloc39 (st.inv.alloc st.inv.size _) (below_new _ _) ⟨_, rfl, st.inv.size, by simp, heap_alloc_new _ _⟩)
            | n + 23, ho => exact absurd hin (by omega)
          · intro w2 hJ
            simp only [AnyOrder.finK, List.take_succ_cons, List.take_zero, List.drop_succ_cons, List.drop_zero, Act.put, List.setIfInBounds_toArray, List.set_cons_zero, List.set_cons_succ]
            intro v16 h16 v17 h17 v18 h18 v21 h21 v22 h22
            clear h16 h17
            obtain ⟨o4, p4, rfl, h4⟩ := h18
            obtain ⟨q1, rfl, l21, l22, l23⟩ := h21
            obtain ⟨r1, rfl, m21, m22, m23⟩ := h22
            have HQ1 : Hid (BkAt w2 q1 zb none none) := Lib.hid l23
            have HR1 : Hid (CgAt w2 r1 zg) := Lib.hid m23
            have HR2 : Hid (CgAt (w2.setRow q1 (d.cells o4 p4)) r1 zg) := Lib.hid (At.farRow HR1.out (At.ne HR1.out HQ1.out (by decide)))
            have lq := At.lt HAS.out.bk
            have HS0 := Lib.hid (AS.two (x := g) (HAS.out.step hJ) h4 HQ1.out HR1.out (by omega) (by omega))
            clear h4 l21 l22 l23 m21 m22 m23 hJ HAS HR1 lq kk
            go_wp2_with (first | ((with_reducible apply wpList_store_bk (b := d) (s := o4) (t := p4) (hq := HQ1.out)); exact rfl; exact rfl; exact rfl; exact rfl) | ((with_reducible apply wpList_store_cg (c := g) (hq := HR2.out)); exact rfl; exact rfl; exact rfl; exact rfl))
            refine NoPanic.normal ?_
            obtain ⟨w3, hw3⟩ : ∃ w3, (w2.setRow q1 (d.cells o4 p4)).setRow r1 g.cells = w3 := ⟨_, rfl⟩
            rw [hw3] at HS0 ⊢; clear hw3 HQ1 HR2
            have HAS := Lib.hid HS0.out.1; have HK1 := Lib.hid HS0.out.2.1; have HA1 := Lib.hid HS0.out.2.2
            clear HS0
            by_cases he : e = 0
            · have d3 : decide (e = 0) = true := by simpa using he
              have q3 : (e == 0) = true := by simpa using he
              have HQ := Lib.hid HAS.out.bk
              have HPL2 : Hid (Pl d (j + 1)) := Lib.hid (by have h := HPL.out.place (x := y.x) (n := y.n) (m := y.m) (by omega) (by rw [HR.out]; exact he); rwa [HR.out] at h)
              have HAS2 := Lib.hid (HAS.out.put HA1.out)
              clear HPL HAS HR he
              go_wp2_with (first | ((with_reducible apply wpList_load_bk (h := HK1.out)); exact rfl; exact rfl; exact rfl) | ((with_reducible apply wpList_store_bk (b := d) (s := o4) (t := p4) (hq := HQ.out)); exact rfl; exact rfl; exact rfl; exact rfl))
              go_roundg (N - (j + 1))
              case measure => have := HG.out; have := HJ.out; omega
              case rel => exact ⟨j + 1, d, o4, p4, by have := HJ.out; omega, by omega, rfl, rfl, HAS2.out, HPL2.out⟩
            · have d3 : decide (e = 0) = false := by simpa using he
              have q3 : (e == 0) = false := by simpa using he
              clear he
              go_wp2_with fail
              go_roundg (N - (j + 1))
              case measure => have := HG.out; have := HJ.out; omega
              case rel => exact ⟨j + 1, s, o, p, by have := HJ.out; omega, by omega, rfl, rfl, HAS.out, HPL.out.mono (by omega)⟩
      · have d1 : decide (y.kind = 1) = false := by simp; omega
        have d2 : decide (y.kind = 2) = false := by simp; omega
        have n1 : (y.kind != 1) = true := by simp; omega
        have n2 : (y.kind != 2) = true := by simp; omega
        clear hk
        go_wp2_with fail
        go_roundg (N - (j + 1))
        case measure => have := HG.out; have := HJ.out; omega
        case rel => exact ⟨j + 1, s, o, p, by have := HJ.out; omega, by omega, rfl, rfl, HAS.out, HPL.out.mono (by omega)⟩
    · have hx : (j < N ∧ ¬ j < 60) ∨ ¬ j < N := by omega
      clear hlt
      have HAT := Lib.hid HAS.out.at_
      have BK := Lib.hid HAS.out.bk; have HB := Lib.hid HAS.out.bel
      have HRI := Lib.hid HAS.out.at_.1.rise
      have HJX := Lib.hid hj60
      clear HAS HG HA
      rcases hx with ⟨h1, h2⟩ | h1
      all_goals first
        | (have b3 : (j : Int) < (N : Int) := by omega
           have b6 : ¬ (j : Int) < 60 := by omega
           clear h1 h2 hj hj60
           go_upto_region 11 with fail)
        | (have b3 : ¬ (j : Int) < (N : Int) := by omega
           clear h1 hj hj60
           go_upto_region 11 with fail)
      all_goals
        cases hfx : findB s i1 with
        | none =>
          obtain ⟨fy, hfy⟩ : ∃ fy, findB s i2 = fy := ⟨_, rfl⟩
          have CF : Hid (∀ W, BAt W s o p → Calls Try.prog 16 #[s.V o p, .int .i64 i1] W (FPost W (none))) := Lib.hid (fun W hb => by have h := findB_any i1 hb; rwa [hfx] at h)
          have CF2 : Hid (∀ W, BAt W s o p → Calls Try.prog 16 #[s.V o p, .int .i64 i2] W (FPost W (fy))) := Lib.hid (fun W hb => by have h := findB_any i2 hb; rwa [hfy] at h)
          have HFX := Lib.hid hfx; have HFY := Lib.hid hfy; clear hfx hfy
          have CC := Lib.hid (CF.out _ HAT.out)
          go_upto_region 12 with (first | ((with_reducible apply wpList_load_bk (h := BK.out)); exact rfl; exact rfl; exact rfl) | (go_at_call 16; (with_reducible refine CC.out.mono ?_); rintro e v6 ⟨rfl, hb6⟩) | ((with_reducible apply wpList_store_knew (c := zk)); exact rfl; exact rfl; exact rfl; exact rfl))
          have b7 := hb6.trans ((below_new v6 (.cells (zk).cells 37)).mono hb6.size)
          have hk7 := KAt.new v6 (zk)
          obtain ⟨W7, hW⟩ : ∃ W7, v6.alloc (.cells (zk).cells 37) = W7 := ⟨_, rfl⟩
          rw [hW] at b7 hk7 ⊢; clear hW CC CF
          have BK := Lib.hid (BK.out.step b7); have HAT := Lib.hid (HAT.out.step b7)
          have HB := Lib.hid (HB.out.trans (b7.mono HB.out.size))
          have KX : Hid (KAt W7 v6.heap.size (zk)) := Lib.hid hk7
          clear b7 hk7 hb6
          generalize v6.heap.size = g6 at *
          have CC := Lib.hid (CF2.out _ HAT.out)
          go_upto_region 13 with (first | ((with_reducible apply wpList_load_bk (h := BK.out)); exact rfl; exact rfl; exact rfl) | (go_at_call 16; (with_reducible refine CC.out.mono ?_); rintro e v8 ⟨rfl, hb8⟩) | ((with_reducible apply wpList_store_knew (c := fy.getD zk)); exact rfl; exact rfl; exact rfl; exact rfl))
          have b9 := hb8.trans ((below_new v8 (.cells (fy.getD zk).cells 37)).mono hb8.size)
          have hk9 := KAt.new v8 (fy.getD zk)
          obtain ⟨W9, hW⟩ : ∃ W9, v8.alloc (.cells (fy.getD zk).cells 37) = W9 := ⟨_, rfl⟩
          rw [hW] at b9 hk9 ⊢; clear hW CC CF2
          have BK := Lib.hid (BK.out.step b9); have HAT := Lib.hid (HAT.out.step b9); have KX := Lib.hid (KX.out.step b9)
          have HB := Lib.hid (HB.out.trans (b9.mono HB.out.size))
          have KY : Hid (KAt W9 v8.heap.size (fy.getD zk)) := Lib.hid hk9
          clear b9 hk9 hb8
          generalize v8.heap.size = g8 at *
          go_wp2_with fail
          go_ret
          exact ⟨rfl, HB.out⟩
        | some x =>
          cases hfy : findB s i2 with
          | none =>
            have CF : Hid (∀ W, BAt W s o p → Calls Try.prog 16 #[s.V o p, .int .i64 i1] W (FPost W ((some x)))) := Lib.hid (fun W hb => by have h := findB_any i1 hb; rwa [hfx] at h)
            have CF2 : Hid (∀ W, BAt W s o p → Calls Try.prog 16 #[s.V o p, .int .i64 i2] W (FPost W (none))) := Lib.hid (fun W hb => by have h := findB_any i2 hb; rwa [hfy] at h)
            have HFX := Lib.hid hfx; have HFY := Lib.hid hfy; clear hfx hfy
            have CC := Lib.hid (CF.out _ HAT.out)
            go_upto_region 12 with (first | ((with_reducible apply wpList_load_bk (h := BK.out)); exact rfl; exact rfl; exact rfl) | (go_at_call 16; (with_reducible refine CC.out.mono ?_); rintro e v6 ⟨rfl, hb6⟩) | ((with_reducible apply wpList_store_knew (c := x)); exact rfl; exact rfl; exact rfl; exact rfl))
            have b7 := hb6.trans ((below_new v6 (.cells (x).cells 37)).mono hb6.size)
            have hk7 := KAt.new v6 (x)
            obtain ⟨W7, hW⟩ : ∃ W7, v6.alloc (.cells (x).cells 37) = W7 := ⟨_, rfl⟩
            rw [hW] at b7 hk7 ⊢; clear hW CC CF
            have BK := Lib.hid (BK.out.step b7); have HAT := Lib.hid (HAT.out.step b7)
            have HB := Lib.hid (HB.out.trans (b7.mono HB.out.size))
            have KX : Hid (KAt W7 v6.heap.size (x)) := Lib.hid hk7
            clear b7 hk7 hb6
            generalize v6.heap.size = g6 at *
            have CC := Lib.hid (CF2.out _ HAT.out)
            go_upto_region 13 with (first | ((with_reducible apply wpList_load_bk (h := BK.out)); exact rfl; exact rfl; exact rfl) | (go_at_call 16; (with_reducible refine CC.out.mono ?_); rintro e v8 ⟨rfl, hb8⟩) | ((with_reducible apply wpList_store_knew (c := zk)); exact rfl; exact rfl; exact rfl; exact rfl))
            have b9 := hb8.trans ((below_new v8 (.cells (zk).cells 37)).mono hb8.size)
            have hk9 := KAt.new v8 (zk)
            obtain ⟨W9, hW⟩ : ∃ W9, v8.alloc (.cells (zk).cells 37) = W9 := ⟨_, rfl⟩
            rw [hW] at b9 hk9 ⊢; clear hW CC CF2
            have BK := Lib.hid (BK.out.step b9); have HAT := Lib.hid (HAT.out.step b9); have KX := Lib.hid (KX.out.step b9)
            have HB := Lib.hid (HB.out.trans (b9.mono HB.out.size))
            have KY : Hid (KAt W9 v8.heap.size (zk)) := Lib.hid hk9
            clear b9 hk9 hb8
            generalize v8.heap.size = g8 at *
            go_wp2_with fail
            go_ret
            exact ⟨rfl, HB.out⟩
          | some y =>
            by_cases hab : i1 = i2
            · have d9 : decide (i1 = i2) = true := by simpa using hab
              have q9 : (i1 == i2) = true := by simpa using hab
              clear hab
              have CF : Hid (∀ W, BAt W s o p → Calls Try.prog 16 #[s.V o p, .int .i64 i1] W (FPost W ((some x)))) := Lib.hid (fun W hb => by have h := findB_any i1 hb; rwa [hfx] at h)
              have CF2 : Hid (∀ W, BAt W s o p → Calls Try.prog 16 #[s.V o p, .int .i64 i2] W (FPost W ((some y)))) := Lib.hid (fun W hb => by have h := findB_any i2 hb; rwa [hfy] at h)
              have HFX := Lib.hid hfx; have HFY := Lib.hid hfy; clear hfx hfy
              have CC := Lib.hid (CF.out _ HAT.out)
              go_upto_region 12 with (first | ((with_reducible apply wpList_load_bk (h := BK.out)); exact rfl; exact rfl; exact rfl) | (go_at_call 16; (with_reducible refine CC.out.mono ?_); rintro e v6 ⟨rfl, hb6⟩) | ((with_reducible apply wpList_store_knew (c := x)); exact rfl; exact rfl; exact rfl; exact rfl))
              have b7 := hb6.trans ((below_new v6 (.cells (x).cells 37)).mono hb6.size)
              have hk7 := KAt.new v6 (x)
              obtain ⟨W7, hW⟩ : ∃ W7, v6.alloc (.cells (x).cells 37) = W7 := ⟨_, rfl⟩
              rw [hW] at b7 hk7 ⊢; clear hW CC CF
              have BK := Lib.hid (BK.out.step b7); have HAT := Lib.hid (HAT.out.step b7)
              have HB := Lib.hid (HB.out.trans (b7.mono HB.out.size))
              have KX : Hid (KAt W7 v6.heap.size (x)) := Lib.hid hk7
              clear b7 hk7 hb6
              generalize v6.heap.size = g6 at *
              have CC := Lib.hid (CF2.out _ HAT.out)
              go_upto_region 13 with (first | ((with_reducible apply wpList_load_bk (h := BK.out)); exact rfl; exact rfl; exact rfl) | (go_at_call 16; (with_reducible refine CC.out.mono ?_); rintro e v8 ⟨rfl, hb8⟩) | ((with_reducible apply wpList_store_knew (c := y)); exact rfl; exact rfl; exact rfl; exact rfl))
              have b9 := hb8.trans ((below_new v8 (.cells (y).cells 37)).mono hb8.size)
              have hk9 := KAt.new v8 (y)
              obtain ⟨W9, hW⟩ : ∃ W9, v8.alloc (.cells (y).cells 37) = W9 := ⟨_, rfl⟩
              rw [hW] at b9 hk9 ⊢; clear hW CC CF2
              have BK := Lib.hid (BK.out.step b9); have HAT := Lib.hid (HAT.out.step b9); have KX := Lib.hid (KX.out.step b9)
              have HB := Lib.hid (HB.out.trans (b9.mono HB.out.size))
              have KY : Hid (KAt W9 v8.heap.size (y)) := Lib.hid hk9
              clear b9 hk9 hb8
              generalize v8.heap.size = g8 at *
              go_wp2_with fail
              go_ret
              exact ⟨rfl, HB.out⟩
            · as_aux_lemma =>
              have d9 : decide (i1 = i2) = false := by simpa using hab
              have q9 : (i1 == i2) = false := by simpa using hab
              have CF : Hid (∀ W, BAt W s o p → Calls Try.prog 16 #[s.V o p, .int .i64 i1] W (FPost W ((some x)))) := Lib.hid (fun W hb => by have h := findB_any i1 hb; rwa [hfx] at h)
              have CF2 : Hid (∀ W, BAt W s o p → Calls Try.prog 16 #[s.V o p, .int .i64 i2] W (FPost W ((some y)))) := Lib.hid (fun W hb => by have h := findB_any i2 hb; rwa [hfy] at h)
              have HFX := Lib.hid hfx; have HFY := Lib.hid hfy; clear hfx hfy
              have CC := Lib.hid (CF.out _ HAT.out)
              go_upto_region 12 with (first | ((with_reducible apply wpList_load_bk (h := BK.out)); exact rfl; exact rfl; exact rfl) | (go_at_call 16; (with_reducible refine CC.out.mono ?_); rintro e v6 ⟨rfl, hb6⟩) | ((with_reducible apply wpList_store_knew (c := x)); exact rfl; exact rfl; exact rfl; exact rfl))
              have b7 := hb6.trans ((below_new v6 (.cells (x).cells 37)).mono hb6.size)
              have hk7 := KAt.new v6 (x)
              obtain ⟨W7, hW⟩ : ∃ W7, v6.alloc (.cells (x).cells 37) = W7 := ⟨_, rfl⟩
              rw [hW] at b7 hk7 ⊢; clear hW CC CF
              have BK := Lib.hid (BK.out.step b7); have HAT := Lib.hid (HAT.out.step b7)
              have HB := Lib.hid (HB.out.trans (b7.mono HB.out.size))
              have KX : Hid (KAt W7 v6.heap.size (x)) := Lib.hid hk7
              clear b7 hk7 hb6
              generalize v6.heap.size = g6 at *
              have CC := Lib.hid (CF2.out _ HAT.out)
              go_upto_region 13 with (first | ((with_reducible apply wpList_load_bk (h := BK.out)); exact rfl; exact rfl; exact rfl) | (go_at_call 16; (with_reducible refine CC.out.mono ?_); rintro e v8 ⟨rfl, hb8⟩) | ((with_reducible apply wpList_store_knew (c := y)); exact rfl; exact rfl; exact rfl; exact rfl))
              have b9 := hb8.trans ((below_new v8 (.cells (y).cells 37)).mono hb8.size)
              have hk9 := KAt.new v8 (y)
              obtain ⟨W9, hW⟩ : ∃ W9, v8.alloc (.cells (y).cells 37) = W9 := ⟨_, rfl⟩
              rw [hW] at b9 hk9 ⊢; clear hW CC CF2
              have BK := Lib.hid (BK.out.step b9); have HAT := Lib.hid (HAT.out.step b9); have KX := Lib.hid (KX.out.step b9)
              have HB := Lib.hid (HB.out.trans (b9.mono HB.out.size))
              have KY : Hid (KAt W9 v8.heap.size (y)) := Lib.hid hk9
              clear b9 hk9 hb8
              generalize v8.heap.size = g8 at *
              have HAB := Lib.hid hab; clear hab
              have k6 := KX.out.get6; have k6y := KY.out.get6
              go_upto_region 15 with fail
              obtain ⟨md, hmd, h12⟩ := mode_num mo HM.out
              obtain ⟨p1, q1, r1, u1, v1, w1, gp, gq, gr, gu, gv, gw, h6⟩ := two6 HPL.out (by have := HJX.out; omega) HRI.out HFX.out HFY.out HAB.out h12
              have H6 := Lib.hid h6
              clear h6 HFX HFY HAB h12 k6 k6y
              have k6 := KX.out.get6
              have CC := Lib.hid ((by have h := cancelBk_any i1 x.own HAT.out HPL.out.ok; rw [H6.out.e1] at h; exact h : Calls Try.prog 10 #[s.V o p, .int .i64 i1, .int .i64 x.own] W9 (B3 W9 (p1, gp, 0))))
              go_upto_region 16 with (first | ((with_reducible apply wpList_load_bk (h := BK.out)); exact rfl; exact rfl; exact rfl) | (go_at_call 10; (with_reducible refine CC.out.mono ?_); rintro e va ⟨oa, pa, rfl, haa, hba⟩; have HQ : Hid (BkAt ((va.alloc (.cells Z29 32)).alloc (.cells Z11 39)) va.heap.size zb none none) := Lib.hid (new2 va Z29 Z11 32 39).2.1; have HR : Hid (CgAt (((va.alloc (.cells Z29 32)).alloc (.cells Z11 39)).setRow va.heap.size ((p1).cells oa pa)) (va.heap.size + 1) zg) := Lib.hid (At.farRow (new2 va Z29 Z11 32 39).2.2 (by omega))) | ((with_reducible apply wpList_store_bk (b := p1) (s := oa) (t := pa) (hq := HQ.out)); exact rfl; exact rfl; exact rfl; exact rfl) | ((with_reducible apply wpList_store_cg (c := gp) (hq := HR.out)); exact rfl; exact rfl; exact rfl; exact rfl))
              obtain ⟨bma, hbka, hcga⟩ := made2 va (p1) oa pa (gp)
              obtain ⟨Wa, hW⟩ : ∃ Wa, ((((va.alloc (.cells Z29 32)).alloc (.cells Z11 39)).setRow va.heap.size ((p1).cells oa pa)).setRow (va.heap.size + 1) (gp).cells) = Wa := ⟨_, rfl⟩
              rw [hW] at bma hbka hcga ⊢; clear hW HQ HR CC
              have hsa := hba.trans (bma.mono hba.size)
              have BK := Lib.hid (BK.out.step hsa); have HAT := Lib.hid (HAT.out.step hsa); have KX := Lib.hid (KX.out.step hsa); have KY := Lib.hid (KY.out.step hsa)
              have HB := Lib.hid (HB.out.trans (hsa.mono HB.out.size))
              have BKa : Hid (BkAt Wa va.heap.size (p1) oa pa) := Lib.hid hbka; have CGa : Hid (CgAt Wa (va.heap.size + 1) (gp)) := Lib.hid hcga; have ATa : Hid (BAt Wa (p1) oa pa) := Lib.hid (BAt.step haa bma)
              clear bma hbka hcga hsa haa hba
              generalize va.heap.size + 1 = ra at *; generalize va.heap.size = qa at *
              clear CGa
              clear k6
              have CC := Lib.hid ((by have h := setBk_any 1 md ATa.out H6.out.ok.1; rw [H6.out.e2] at h; exact h : Calls Try.prog 11 #[p1.V oa pa, .int .i64 1, .int .i64 md] Wa (B3 Wa (q1, gq, 0))))
              go_upto_region 17 with (first | ((with_reducible apply wpList_load_bk (h := BKa.out)); exact rfl; exact rfl; exact rfl) | (go_at_call 11; (with_reducible refine CC.out.mono ?_); rintro e vb ⟨ob, pb, rfl, hab, hbb⟩; have HQ : Hid (BkAt ((vb.alloc (.cells Z29 32)).alloc (.cells Z11 39)) vb.heap.size zb none none) := Lib.hid (new2 vb Z29 Z11 32 39).2.1; have HR : Hid (CgAt (((vb.alloc (.cells Z29 32)).alloc (.cells Z11 39)).setRow vb.heap.size ((q1).cells ob pb)) (vb.heap.size + 1) zg) := Lib.hid (At.farRow (new2 vb Z29 Z11 32 39).2.2 (by omega))) | ((with_reducible apply wpList_store_bk (b := q1) (s := ob) (t := pb) (hq := HQ.out)); exact rfl; exact rfl; exact rfl; exact rfl) | ((with_reducible apply wpList_store_cg (c := gq) (hq := HR.out)); exact rfl; exact rfl; exact rfl; exact rfl))
              obtain ⟨bmb, hbkb, hcgb⟩ := made2 vb (q1) ob pb (gq)
              obtain ⟨Wb, hW⟩ : ∃ Wb, ((((vb.alloc (.cells Z29 32)).alloc (.cells Z11 39)).setRow vb.heap.size ((q1).cells ob pb)).setRow (vb.heap.size + 1) (gq).cells) = Wb := ⟨_, rfl⟩
              rw [hW] at bmb hbkb hcgb ⊢; clear hW HQ HR CC
              have hsb := hbb.trans (bmb.mono hbb.size)
              have BK := Lib.hid (BK.out.step hsb); have HAT := Lib.hid (HAT.out.step hsb); have KX := Lib.hid (KX.out.step hsb); have KY := Lib.hid (KY.out.step hsb); have BKa := Lib.hid (BKa.out.step hsb); have ATa := Lib.hid (ATa.out.step hsb)
              have HB := Lib.hid (HB.out.trans (hsb.mono HB.out.size))
              have BKb : Hid (BkAt Wb vb.heap.size (q1) ob pb) := Lib.hid hbkb; have CGb : Hid (CgAt Wb (vb.heap.size + 1) (gq)) := Lib.hid hcgb; have ATb : Hid (BAt Wb (q1) ob pb) := Lib.hid (BAt.step hab bmb)
              clear bmb hbkb hcgb hsb hab hbb
              generalize vb.heap.size + 1 = rb at *; generalize vb.heap.size = qb at *
              clear CGb BKa ATa
              have k6 := KY.out.get6
              have CC := Lib.hid ((by have h := cancelBk_any i2 y.own ATb.out H6.out.ok.2.1; rw [H6.out.e3] at h; exact h : Calls Try.prog 10 #[q1.V ob pb, .int .i64 i2, .int .i64 y.own] Wb (B3 Wb (r1, gr, 0))))
              go_upto_region 18 with (first | ((with_reducible apply wpList_load_bk (h := BKb.out)); exact rfl; exact rfl; exact rfl) | (go_at_call 10; (with_reducible refine CC.out.mono ?_); rintro e vc ⟨oc, pc, rfl, hac, hbc⟩; have HQ : Hid (BkAt ((vc.alloc (.cells Z29 32)).alloc (.cells Z11 39)) vc.heap.size zb none none) := Lib.hid (new2 vc Z29 Z11 32 39).2.1; have HR : Hid (CgAt (((vc.alloc (.cells Z29 32)).alloc (.cells Z11 39)).setRow vc.heap.size ((r1).cells oc pc)) (vc.heap.size + 1) zg) := Lib.hid (At.farRow (new2 vc Z29 Z11 32 39).2.2 (by omega))) | ((with_reducible apply wpList_store_bk (b := r1) (s := oc) (t := pc) (hq := HQ.out)); exact rfl; exact rfl; exact rfl; exact rfl) | ((with_reducible apply wpList_store_cg (c := gr) (hq := HR.out)); exact rfl; exact rfl; exact rfl; exact rfl))
              obtain ⟨bmc, hbkc, hcgc⟩ := made2 vc (r1) oc pc (gr)
              obtain ⟨Wc, hW⟩ : ∃ Wc, ((((vc.alloc (.cells Z29 32)).alloc (.cells Z11 39)).setRow vc.heap.size ((r1).cells oc pc)).setRow (vc.heap.size + 1) (gr).cells) = Wc := ⟨_, rfl⟩
              rw [hW] at bmc hbkc hcgc ⊢; clear hW HQ HR CC
              have hsc := hbc.trans (bmc.mono hbc.size)
              have BK := Lib.hid (BK.out.step hsc); have HAT := Lib.hid (HAT.out.step hsc); have KX := Lib.hid (KX.out.step hsc); have KY := Lib.hid (KY.out.step hsc); have BKb := Lib.hid (BKb.out.step hsc); have ATb := Lib.hid (ATb.out.step hsc)
              have HB := Lib.hid (HB.out.trans (hsc.mono HB.out.size))
              have BKc : Hid (BkAt Wc vc.heap.size (r1) oc pc) := Lib.hid hbkc; have CGc : Hid (CgAt Wc (vc.heap.size + 1) (gr)) := Lib.hid hcgc; have ATc : Hid (BAt Wc (r1) oc pc) := Lib.hid (BAt.step hac bmc)
              clear bmc hbkc hcgc hsc hac hbc
              generalize vc.heap.size + 1 = rc at *; generalize vc.heap.size = qc at *
              clear CGc BKb ATb
              clear k6
              have k6 := KY.out.get6
              have CC := Lib.hid ((by have h := cancelBk_any i2 y.own HAT.out HPL.out.ok; rw [H6.out.e4] at h; exact h : Calls Try.prog 10 #[s.V o p, .int .i64 i2, .int .i64 y.own] Wc (B3 Wc (u1, gu, 0))))
              go_upto_region 19 with (first | ((with_reducible apply wpList_load_bk (h := BK.out)); exact rfl; exact rfl; exact rfl) | (go_at_call 10; (with_reducible refine CC.out.mono ?_); rintro e vd ⟨od, pd, rfl, had, hbd⟩; have HQ : Hid (BkAt ((vd.alloc (.cells Z29 32)).alloc (.cells Z11 39)) vd.heap.size zb none none) := Lib.hid (new2 vd Z29 Z11 32 39).2.1; have HR : Hid (CgAt (((vd.alloc (.cells Z29 32)).alloc (.cells Z11 39)).setRow vd.heap.size ((u1).cells od pd)) (vd.heap.size + 1) zg) := Lib.hid (At.farRow (new2 vd Z29 Z11 32 39).2.2 (by omega))) | ((with_reducible apply wpList_store_bk (b := u1) (s := od) (t := pd) (hq := HQ.out)); exact rfl; exact rfl; exact rfl; exact rfl) | ((with_reducible apply wpList_store_cg (c := gu) (hq := HR.out)); exact rfl; exact rfl; exact rfl; exact rfl))
              obtain ⟨bmd, hbkd, hcgd⟩ := made2 vd (u1) od pd (gu)
              obtain ⟨Wd, hW⟩ : ∃ Wd, ((((vd.alloc (.cells Z29 32)).alloc (.cells Z11 39)).setRow vd.heap.size ((u1).cells od pd)).setRow (vd.heap.size + 1) (gu).cells) = Wd := ⟨_, rfl⟩
              rw [hW] at bmd hbkd hcgd ⊢; clear hW HQ HR CC
              have hsd := hbd.trans (bmd.mono hbd.size)
              have BK := Lib.hid (BK.out.step hsd); have HAT := Lib.hid (HAT.out.step hsd); have KX := Lib.hid (KX.out.step hsd); have KY := Lib.hid (KY.out.step hsd); have BKc := Lib.hid (BKc.out.step hsd); have ATc := Lib.hid (ATc.out.step hsd)
              have HB := Lib.hid (HB.out.trans (hsd.mono HB.out.size))
              have BKd : Hid (BkAt Wd vd.heap.size (u1) od pd) := Lib.hid hbkd; have CGd : Hid (CgAt Wd (vd.heap.size + 1) (gu)) := Lib.hid hcgd; have ATd : Hid (BAt Wd (u1) od pd) := Lib.hid (BAt.step had bmd)
              clear bmd hbkd hcgd hsd had hbd
              generalize vd.heap.size + 1 = rd at *; generalize vd.heap.size = qd at *
              clear CGd
              clear k6
              have k6 := KX.out.get6
              have CC := Lib.hid ((by have h := cancelBk_any i1 x.own ATd.out H6.out.ok.2.2.1; rw [H6.out.e5] at h; exact h : Calls Try.prog 10 #[u1.V od pd, .int .i64 i1, .int .i64 x.own] Wd (B3 Wd (v1, gv, 0))))
              go_upto_region 20 with (first | ((with_reducible apply wpList_load_bk (h := BKd.out)); exact rfl; exact rfl; exact rfl) | (go_at_call 10; (with_reducible refine CC.out.mono ?_); rintro e ve ⟨oe, pe, rfl, hae, hbe⟩; have HQ : Hid (BkAt ((ve.alloc (.cells Z29 32)).alloc (.cells Z11 39)) ve.heap.size zb none none) := Lib.hid (new2 ve Z29 Z11 32 39).2.1; have HR : Hid (CgAt (((ve.alloc (.cells Z29 32)).alloc (.cells Z11 39)).setRow ve.heap.size ((v1).cells oe pe)) (ve.heap.size + 1) zg) := Lib.hid (At.farRow (new2 ve Z29 Z11 32 39).2.2 (by omega))) | ((with_reducible apply wpList_store_bk (b := v1) (s := oe) (t := pe) (hq := HQ.out)); exact rfl; exact rfl; exact rfl; exact rfl) | ((with_reducible apply wpList_store_cg (c := gv) (hq := HR.out)); exact rfl; exact rfl; exact rfl; exact rfl))
              obtain ⟨bme, hbke, hcge⟩ := made2 ve (v1) oe pe (gv)
              obtain ⟨We, hW⟩ : ∃ We, ((((ve.alloc (.cells Z29 32)).alloc (.cells Z11 39)).setRow ve.heap.size ((v1).cells oe pe)).setRow (ve.heap.size + 1) (gv).cells) = We := ⟨_, rfl⟩
              rw [hW] at bme hbke hcge ⊢; clear hW HQ HR CC
              have hse := hbe.trans (bme.mono hbe.size)
              have BK := Lib.hid (BK.out.step hse); have HAT := Lib.hid (HAT.out.step hse); have KX := Lib.hid (KX.out.step hse); have KY := Lib.hid (KY.out.step hse); have BKc := Lib.hid (BKc.out.step hse); have ATc := Lib.hid (ATc.out.step hse); have BKd := Lib.hid (BKd.out.step hse); have ATd := Lib.hid (ATd.out.step hse)
              have HB := Lib.hid (HB.out.trans (hse.mono HB.out.size))
              have BKe : Hid (BkAt We ve.heap.size (v1) oe pe) := Lib.hid hbke; have CGe : Hid (CgAt We (ve.heap.size + 1) (gv)) := Lib.hid hcge; have ATe : Hid (BAt We (v1) oe pe) := Lib.hid (BAt.step hae bme)
              clear bme hbke hcge hse hae hbe
              generalize ve.heap.size + 1 = re at *; generalize ve.heap.size = qe at *
              clear CGe BKd ATd KX KY
              clear k6
              have CC := Lib.hid ((by have h := setBk_any 1 md ATe.out H6.out.ok.2.2.2; rw [H6.out.e6] at h; exact h : Calls Try.prog 11 #[v1.V oe pe, .int .i64 1, .int .i64 md] We (B3 We (w1, gw, 0))))
              go_upto_region 21 with (first | ((with_reducible apply wpList_load_bk (h := BKe.out)); exact rfl; exact rfl; exact rfl) | (go_at_call 11; (with_reducible refine CC.out.mono ?_); rintro e vf ⟨of, pf, rfl, haf, hbf⟩; have HQ : Hid (BkAt ((vf.alloc (.cells Z29 32)).alloc (.cells Z11 39)) vf.heap.size zb none none) := Lib.hid (new2 vf Z29 Z11 32 39).2.1; have HR : Hid (CgAt (((vf.alloc (.cells Z29 32)).alloc (.cells Z11 39)).setRow vf.heap.size ((w1).cells of pf)) (vf.heap.size + 1) zg) := Lib.hid (At.farRow (new2 vf Z29 Z11 32 39).2.2 (by omega))) | ((with_reducible apply wpList_store_bk (b := w1) (s := of) (t := pf) (hq := HQ.out)); exact rfl; exact rfl; exact rfl; exact rfl) | ((with_reducible apply wpList_store_cg (c := gw) (hq := HR.out)); exact rfl; exact rfl; exact rfl; exact rfl))
              obtain ⟨bmf, hbkf, hcgf⟩ := made2 vf (w1) of pf (gw)
              obtain ⟨Wf, hW⟩ : ∃ Wf, ((((vf.alloc (.cells Z29 32)).alloc (.cells Z11 39)).setRow vf.heap.size ((w1).cells of pf)).setRow (vf.heap.size + 1) (gw).cells) = Wf := ⟨_, rfl⟩
              rw [hW] at bmf hbkf hcgf ⊢; clear hW HQ HR CC
              have hsf := hbf.trans (bmf.mono hbf.size)
              have BK := Lib.hid (BK.out.step hsf); have HAT := Lib.hid (HAT.out.step hsf); have BKc := Lib.hid (BKc.out.step hsf); have ATc := Lib.hid (ATc.out.step hsf); have BKe := Lib.hid (BKe.out.step hsf); have ATe := Lib.hid (ATe.out.step hsf)
              have HB := Lib.hid (HB.out.trans (hsf.mono HB.out.size))
              have BKf : Hid (BkAt Wf vf.heap.size (w1) of pf) := Lib.hid hbkf; have CGf : Hid (CgAt Wf (vf.heap.size + 1) (gw)) := Lib.hid hcgf; have ATf : Hid (BAt Wf (w1) of pf) := Lib.hid (BAt.step haf bmf)
              clear bmf hbkf hcgf hsf haf hbf
              generalize vf.heap.size + 1 = rf at *; generalize vf.heap.size = qf at *
              clear CGf BKe ATe
              have HLW : Hid (w1.live = r1.live) := Lib.hid H6.out.live.symm
              have HIX : Hid (w1.ix = r1.ix) := Lib.hid H6.out.ix.symm
              have HMD : Hid (modeB w1 1 = modeB r1 1) := Lib.hid H6.out.mode.symm
              have HLN := Lib.hid H6.out.len
              have hr1 := ATc.out.1.le; have hs1 := HAT.out.1.le
              have HR1 : Hid (r1.live.length ≤ 65536) := Lib.hid (by omega); have HS1 : Hid (s.live.length ≤ 65536) := Lib.hid (by omega)
              have hsub : IntKind.i64.wrap ((s.live.length : Int) - 2) = (r1.live.length : Int) := by have := HLN.out; have := HS1.out; rw [IntWalk.i64_in _ (by omega)]; omega
              clear H6 hmd hr1 hs1
              obtain ⟨mr, hmr⟩ : ∃ mr, modeB r1 1 = mr := ⟨_, rfl⟩
              rw [hmr] at HMD
              have HMR := Lib.hid hmr; clear hmr
              refine AnyOrder.region_kinds2 53 [.eq (.int .i64 0), .eq (.bool true), .eq (.bool true), .eq (.int .i64 0), .eq (.bool true), .eq (.bool true), .eq (.bool true), .eq (.int .i64 0), .eq (.bool true), .eq (.bool true), .eq (.bool true), .eq (.int .i64 0), .eq (.bool true), .eq (.bool true), .eq (.bool true), .eq (.int .i64 0), .eq (.bool true), .eq (.bool true), .eq (.bool true), .eq (.int .i64 0), .eq (.bool true), .eq (.bool true), .eq (.bool true), .eq (r1.V oc pc), .of (RwAt (r1.live.map (·.2))), .eq (w1.V of pf), .of (RwAt (r1.live.map (·.2))), .eq (.bool true), .eq (.bool true), .eq (.bool true), .eq (r1.V oc pc), .eq (.int .i64 r1.ix), .eq (w1.V of pf), .eq (.int .i64 r1.ix), .eq (.bool true), .eq (.bool true), .eq (.bool true), .eq (r1.V oc pc), .eq (.int .i64 mr), .eq (w1.V of pf), .eq (.int .i64 mr), .eq (.bool true), .eq (.bool true), .eq (.bool true), .eq (r1.V oc pc), .of (RwAt (r1.live.map (·.2))), .eq (.int .i64 (r1.live.length : Int)), .eq (s.V o p), .of (RwAt (s.live.map (·.2))), .eq (.int .i64 (s.live.length : Int)), .eq (.int .i64 (r1.live.length : Int)), .eq (.bool true), .eq (.bool true)] (fun wx => Below Wf.heap.size Wf wx) (by kernel_rfl) (by kernel_rfl) rfl (by kernel_rfl) (below_drewN (Below.refl _ _) 1) (by intro p wa wb hp hj hb v hv; simp at hp; rcases hp with rfl | rfl | rfl | rfl <;> (first | exact RwAt.keep hv hb | exact RwAt.keep hv hb | exact RwAt.keep hv hb | exact RwAt.keep hv hb | fail)) ?_ ?_
              · intro i o listed a1 w2 hin ho st hl hdep
                match i, ho with
                | 0, ho => (injection ho with ho; subst ho; have ec : ∀ v, a1.eval (.const v) = v := fun _ => rfl; have ef : ∀ f, a1.eval (.func f) = .func (.func f) #[] #[] := fun _ => rfl; have e0 : a1.eval (.tmp 22) = .int .i64 0 := st.old hl 22 (by kernel_rfl); exact AnyOrder.step_value rfl (AnyOrder.wanted_none rfl) (.int .i64 0) (AnyOrder.run_move e0) st.inv (Below.refl _ _) rfl)
                | 1, ho => (injection ho with ho; subst ho; have ec : ∀ v, a1.eval (.const v) = v := fun _ => rfl; have ef : ∀ f, a1.eval (.func f) = .func (.func f) #[] #[] := fun _ => rfl; have e0 : a1.eval (.tmp 171) = .int .i64 0 := st.done 0 171 (hdep ⟨0, .data⟩ (by simp) rfl) rfl; exact AnyOrder.step_value rfl (AnyOrder.wanted_none rfl) (.bool true) (by generalize a1.eval = ρ at ec ef e0 ⊢; simp [execOp, ec, ef, e0, IntWalk.i64_left, go_sem]) st.inv (Below.refl _ _) rfl)
                | 2, ho => (injection ho with ho; subst ho; have ec : ∀ v, a1.eval (.const v) = v := fun _ => rfl; have ef : ∀ f, a1.eval (.func f) = .func (.func f) #[] #[] := fun _ => rfl; have e0 : a1.eval (.tmp 172) = .bool true := st.done 1 172 (hdep ⟨1, .data⟩ (by simp) rfl) rfl; exact AnyOrder.step_value rfl (AnyOrder.wanted_none rfl) (.bool true) (AnyOrder.run_move e0) st.inv (Below.refl _ _) rfl)
                | 3, ho => (injection ho with ho; subst ho; have ec : ∀ v, a1.eval (.const v) = v := fun _ => rfl; have ef : ∀ f, a1.eval (.func f) = .func (.func f) #[] #[] := fun _ => rfl; have e0 : a1.eval (.tmp 25) = .int .i64 0 := st.old hl 25 (by kernel_rfl); have eg : a1.eval (.tmp 173) = .bool true := st.done 2 173 (hdep ⟨2, .guard⟩ (by simp) rfl) rfl; exact AnyOrder.step_value rfl ((AnyOrder.wanted_of rfl rfl eg).trans rfl) (.int .i64 0) (AnyOrder.run_move e0) st.inv (Below.refl _ _) rfl)
                | 4, ho => (injection ho with ho; subst ho; have ec : ∀ v, a1.eval (.const v) = v := fun _ => rfl; have ef : ∀ f, a1.eval (.func f) = .func (.func f) #[] #[] := fun _ => rfl; have e0 : a1.eval (.tmp 174) = .int .i64 0 := st.done 3 174 (hdep ⟨3, .data⟩ (by simp) rfl) rfl; have eg : a1.eval (.tmp 173) = .bool true := st.done 2 173 (hdep ⟨2, .guard⟩ (by simp) rfl) rfl; exact AnyOrder.step_value rfl ((AnyOrder.wanted_of rfl rfl eg).trans rfl) (.bool true) (by generalize a1.eval = ρ at ec ef e0 ⊢; simp [execOp, ec, ef, e0, IntWalk.i64_left, go_sem]) st.inv (Below.refl _ _) rfl)
                | 5, ho => (injection ho with ho; subst ho; have ec : ∀ v, a1.eval (.const v) = v := fun _ => rfl; have ef : ∀ f, a1.eval (.func f) = .func (.func f) #[] #[] := fun _ => rfl; have e0 : a1.eval (.tmp 173) = .bool true := st.done 2 173 (hdep ⟨2, .data⟩ (by simp) rfl) rfl; have e1 : a1.eval (.tmp 175) = .bool true := st.done 4 175 (hdep ⟨4, .data⟩ (by simp) rfl) rfl; exact AnyOrder.step_value rfl (AnyOrder.wanted_none rfl) (.bool true) (by generalize a1.eval = ρ at ec ef e0 e1 ⊢; simp [execOp, ec, ef, e0, e1, IntWalk.i64_left, go_sem]) st.inv (Below.refl _ _) rfl)
                | 6, ho => (injection ho with ho; subst ho; have ec : ∀ v, a1.eval (.const v) = v := fun _ => rfl; have ef : ∀ f, a1.eval (.func f) = .func (.func f) #[] #[] := fun _ => rfl; have e0 : a1.eval (.tmp 176) = .bool true := st.done 5 176 (hdep ⟨5, .data⟩ (by simp) rfl) rfl; exact AnyOrder.step_value rfl (AnyOrder.wanted_none rfl) (.bool true) (AnyOrder.run_move e0) st.inv (Below.refl _ _) rfl)
                | 7, ho => (injection ho with ho; subst ho; have ec : ∀ v, a1.eval (.const v) = v := fun _ => rfl; have ef : ∀ f, a1.eval (.func f) = .func (.func f) #[] #[] := fun _ => rfl; have e0 : a1.eval (.tmp 28) = .int .i64 0 := st.old hl 28 (by kernel_rfl); have eg : a1.eval (.tmp 177) = .bool true := st.done 6 177 (hdep ⟨6, .guard⟩ (by simp) rfl) rfl; exact AnyOrder.step_value rfl ((AnyOrder.wanted_of rfl rfl eg).trans rfl) (.int .i64 0) (AnyOrder.run_move e0) st.inv (Below.refl _ _) rfl)
                | 8, ho => (injection ho with ho; subst ho; have ec : ∀ v, a1.eval (.const v) = v := fun _ => rfl; have ef : ∀ f, a1.eval (.func f) = .func (.func f) #[] #[] := fun _ => rfl; have e0 : a1.eval (.tmp 178) = .int .i64 0 := st.done 7 178 (hdep ⟨7, .data⟩ (by simp) rfl) rfl; have eg : a1.eval (.tmp 177) = .bool true := st.done 6 177 (hdep ⟨6, .guard⟩ (by simp) rfl) rfl; exact AnyOrder.step_value rfl ((AnyOrder.wanted_of rfl rfl eg).trans rfl) (.bool true) (by generalize a1.eval = ρ at ec ef e0 ⊢; simp [execOp, ec, ef, e0, IntWalk.i64_left, go_sem]) st.inv (Below.refl _ _) rfl)
                | 9, ho => (injection ho with ho; subst ho; have ec : ∀ v, a1.eval (.const v) = v := fun _ => rfl; have ef : ∀ f, a1.eval (.func f) = .func (.func f) #[] #[] := fun _ => rfl; have e0 : a1.eval (.tmp 177) = .bool true := st.done 6 177 (hdep ⟨6, .data⟩ (by simp) rfl) rfl; have e1 : a1.eval (.tmp 179) = .bool true := st.done 8 179 (hdep ⟨8, .data⟩ (by simp) rfl) rfl; exact AnyOrder.step_value rfl (AnyOrder.wanted_none rfl) (.bool true) (by generalize a1.eval = ρ at ec ef e0 e1 ⊢; simp [execOp, ec, ef, e0, e1, IntWalk.i64_left, go_sem]) st.inv (Below.refl _ _) rfl)
                | 10, ho => (injection ho with ho; subst ho; have ec : ∀ v, a1.eval (.const v) = v := fun _ => rfl; have ef : ∀ f, a1.eval (.func f) = .func (.func f) #[] #[] := fun _ => rfl; have e0 : a1.eval (.tmp 180) = .bool true := st.done 9 180 (hdep ⟨9, .data⟩ (by simp) rfl) rfl; exact AnyOrder.step_value rfl (AnyOrder.wanted_none rfl) (.bool true) (AnyOrder.run_move e0) st.inv (Below.refl _ _) rfl)
                | 11, ho => (injection ho with ho; subst ho; have ec : ∀ v, a1.eval (.const v) = v := fun _ => rfl; have ef : ∀ f, a1.eval (.func f) = .func (.func f) #[] #[] := fun _ => rfl; have e0 : a1.eval (.tmp 31) = .int .i64 0 := st.old hl 31 (by kernel_rfl); have eg : a1.eval (.tmp 181) = .bool true := st.done 10 181 (hdep ⟨10, .guard⟩ (by simp) rfl) rfl; exact AnyOrder.step_value rfl ((AnyOrder.wanted_of rfl rfl eg).trans rfl) (.int .i64 0) (AnyOrder.run_move e0) st.inv (Below.refl _ _) rfl)
                | 12, ho => (injection ho with ho; subst ho; have ec : ∀ v, a1.eval (.const v) = v := fun _ => rfl; have ef : ∀ f, a1.eval (.func f) = .func (.func f) #[] #[] := fun _ => rfl; have e0 : a1.eval (.tmp 182) = .int .i64 0 := st.done 11 182 (hdep ⟨11, .data⟩ (by simp) rfl) rfl; have eg : a1.eval (.tmp 181) = .bool true := st.done 10 181 (hdep ⟨10, .guard⟩ (by simp) rfl) rfl; exact AnyOrder.step_value rfl ((AnyOrder.wanted_of rfl rfl eg).trans rfl) (.bool true) (by generalize a1.eval = ρ at ec ef e0 ⊢; simp [execOp, ec, ef, e0, IntWalk.i64_left, go_sem]) st.inv (Below.refl _ _) rfl)
                | 13, ho => (injection ho with ho; subst ho; have ec : ∀ v, a1.eval (.const v) = v := fun _ => rfl; have ef : ∀ f, a1.eval (.func f) = .func (.func f) #[] #[] := fun _ => rfl; have e0 : a1.eval (.tmp 181) = .bool true := st.done 10 181 (hdep ⟨10, .data⟩ (by simp) rfl) rfl; have e1 : a1.eval (.tmp 183) = .bool true := st.done 12 183 (hdep ⟨12, .data⟩ (by simp) rfl) rfl; exact AnyOrder.step_value rfl (AnyOrder.wanted_none rfl) (.bool true) (by generalize a1.eval = ρ at ec ef e0 e1 ⊢; simp [execOp, ec, ef, e0, e1, IntWalk.i64_left, go_sem]) st.inv (Below.refl _ _) rfl)
                | 14, ho => (injection ho with ho; subst ho; have ec : ∀ v, a1.eval (.const v) = v := fun _ => rfl; have ef : ∀ f, a1.eval (.func f) = .func (.func f) #[] #[] := fun _ => rfl; have e0 : a1.eval (.tmp 184) = .bool true := st.done 13 184 (hdep ⟨13, .data⟩ (by simp) rfl) rfl; exact AnyOrder.step_value rfl (AnyOrder.wanted_none rfl) (.bool true) (AnyOrder.run_move e0) st.inv (Below.refl _ _) rfl)
                | 15, ho => (injection ho with ho; subst ho; have ec : ∀ v, a1.eval (.const v) = v := fun _ => rfl; have ef : ∀ f, a1.eval (.func f) = .func (.func f) #[] #[] := fun _ => rfl; have e0 : a1.eval (.tmp 34) = .int .i64 0 := st.old hl 34 (by kernel_rfl); have eg : a1.eval (.tmp 185) = .bool true := st.done 14 185 (hdep ⟨14, .guard⟩ (by simp) rfl) rfl; exact AnyOrder.step_value rfl ((AnyOrder.wanted_of rfl rfl eg).trans rfl) (.int .i64 0) (AnyOrder.run_move e0) st.inv (Below.refl _ _) rfl)
                | 16, ho => (injection ho with ho; subst ho; have ec : ∀ v, a1.eval (.const v) = v := fun _ => rfl; have ef : ∀ f, a1.eval (.func f) = .func (.func f) #[] #[] := fun _ => rfl; have e0 : a1.eval (.tmp 186) = .int .i64 0 := st.done 15 186 (hdep ⟨15, .data⟩ (by simp) rfl) rfl; have eg : a1.eval (.tmp 185) = .bool true := st.done 14 185 (hdep ⟨14, .guard⟩ (by simp) rfl) rfl; exact AnyOrder.step_value rfl ((AnyOrder.wanted_of rfl rfl eg).trans rfl) (.bool true) (by generalize a1.eval = ρ at ec ef e0 ⊢; simp [execOp, ec, ef, e0, IntWalk.i64_left, go_sem]) st.inv (Below.refl _ _) rfl)
                | 17, ho => (injection ho with ho; subst ho; have ec : ∀ v, a1.eval (.const v) = v := fun _ => rfl; have ef : ∀ f, a1.eval (.func f) = .func (.func f) #[] #[] := fun _ => rfl; have e0 : a1.eval (.tmp 185) = .bool true := st.done 14 185 (hdep ⟨14, .data⟩ (by simp) rfl) rfl; have e1 : a1.eval (.tmp 187) = .bool true := st.done 16 187 (hdep ⟨16, .data⟩ (by simp) rfl) rfl; exact AnyOrder.step_value rfl (AnyOrder.wanted_none rfl) (.bool true) (by generalize a1.eval = ρ at ec ef e0 e1 ⊢; simp [execOp, ec, ef, e0, e1, IntWalk.i64_left, go_sem]) st.inv (Below.refl _ _) rfl)
                | 18, ho => (injection ho with ho; subst ho; have ec : ∀ v, a1.eval (.const v) = v := fun _ => rfl; have ef : ∀ f, a1.eval (.func f) = .func (.func f) #[] #[] := fun _ => rfl; have e0 : a1.eval (.tmp 188) = .bool true := st.done 17 188 (hdep ⟨17, .data⟩ (by simp) rfl) rfl; exact AnyOrder.step_value rfl (AnyOrder.wanted_none rfl) (.bool true) (AnyOrder.run_move e0) st.inv (Below.refl _ _) rfl)
                | 19, ho => (injection ho with ho; subst ho; have ec : ∀ v, a1.eval (.const v) = v := fun _ => rfl; have ef : ∀ f, a1.eval (.func f) = .func (.func f) #[] #[] := fun _ => rfl; have e0 : a1.eval (.tmp 37) = .int .i64 0 := st.old hl 37 (by kernel_rfl); have eg : a1.eval (.tmp 189) = .bool true := st.done 18 189 (hdep ⟨18, .guard⟩ (by simp) rfl) rfl; exact AnyOrder.step_value rfl ((AnyOrder.wanted_of rfl rfl eg).trans rfl) (.int .i64 0) (AnyOrder.run_move e0) st.inv (Below.refl _ _) rfl)
                | 20, ho => (injection ho with ho; subst ho; have ec : ∀ v, a1.eval (.const v) = v := fun _ => rfl; have ef : ∀ f, a1.eval (.func f) = .func (.func f) #[] #[] := fun _ => rfl; have e0 : a1.eval (.tmp 190) = .int .i64 0 := st.done 19 190 (hdep ⟨19, .data⟩ (by simp) rfl) rfl; have eg : a1.eval (.tmp 189) = .bool true := st.done 18 189 (hdep ⟨18, .guard⟩ (by simp) rfl) rfl; exact AnyOrder.step_value rfl ((AnyOrder.wanted_of rfl rfl eg).trans rfl) (.bool true) (by generalize a1.eval = ρ at ec ef e0 ⊢; simp [execOp, ec, ef, e0, IntWalk.i64_left, go_sem]) st.inv (Below.refl _ _) rfl)
                | 21, ho => (injection ho with ho; subst ho; have ec : ∀ v, a1.eval (.const v) = v := fun _ => rfl; have ef : ∀ f, a1.eval (.func f) = .func (.func f) #[] #[] := fun _ => rfl; have e0 : a1.eval (.tmp 189) = .bool true := st.done 18 189 (hdep ⟨18, .data⟩ (by simp) rfl) rfl; have e1 : a1.eval (.tmp 191) = .bool true := st.done 20 191 (hdep ⟨20, .data⟩ (by simp) rfl) rfl; exact AnyOrder.step_value rfl (AnyOrder.wanted_none rfl) (.bool true) (by generalize a1.eval = ρ at ec ef e0 e1 ⊢; simp [execOp, ec, ef, e0, e1, IntWalk.i64_left, go_sem]) st.inv (Below.refl _ _) rfl)
                | 22, ho => (injection ho with ho; subst ho; have ec : ∀ v, a1.eval (.const v) = v := fun _ => rfl; have ef : ∀ f, a1.eval (.func f) = .func (.func f) #[] #[] := fun _ => rfl; have e0 : a1.eval (.tmp 192) = .bool true := st.done 21 192 (hdep ⟨21, .data⟩ (by simp) rfl) rfl; exact AnyOrder.step_value rfl (AnyOrder.wanted_none rfl) (.bool true) (AnyOrder.run_move e0) st.inv (Below.refl _ _) rfl)
                | 23, ho => (injection ho with ho; subst ho; have ec : ∀ v, a1.eval (.const v) = v := fun _ => rfl; have ef : ∀ f, a1.eval (.func f) = .func (.func f) #[] #[] := fun _ => rfl; have e0 : a1.eval (.tmp 26) = ptr qc 0 := st.old hl 26 (by kernel_rfl); have eg : a1.eval (.tmp 193) = .bool true := st.done 22 193 (hdep ⟨22, .guard⟩ (by simp) rfl) rfl; exact AnyOrder.step_value rfl ((AnyOrder.wanted_of rfl rfl eg).trans rfl) (r1.V oc pc) (run_load_bk e0 (At.step BKc.out st.inv)) st.inv (Below.refl _ _) rfl)
                | 24, ho => (injection ho with ho; subst ho; have ec : ∀ v, a1.eval (.const v) = v := fun _ => rfl; have ef : ∀ f, a1.eval (.func f) = .func (.func f) #[] #[] := fun _ => rfl; have e0 : a1.eval (.tmp 194) = r1.V oc pc := st.done 23 194 (hdep ⟨23, .data⟩ (by simp) rfl) rfl; have eg : a1.eval (.tmp 193) = .bool true := st.done 22 193 (hdep ⟨22, .chain⟩ (by simp) rfl) rfl; exact AnyOrder.step_call rfl ((AnyOrder.wanted_of rfl rfl eg).trans rfl) 8 #[r1.V oc pc] (by generalize a1.eval = ρ at ec ef e0 ⊢; simp [execOp, ec, ef, e0, go_sem]) ((live_any (ATc.out.step st.inv)).mono (fun e w4 h => by obtain ⟨vk, rfl, ho, hb⟩ := h; exact ⟨_, rfl, st.inv.trans (hb.mono st.inv.size), hb, by have h2 := ho.rd; exact h2⟩)))
                | 25, ho => (injection ho with ho; subst ho; have ec : ∀ v, a1.eval (.const v) = v := fun _ => rfl; have ef : ∀ f, a1.eval (.func f) = .func (.func f) #[] #[] := fun _ => rfl; have e0 : a1.eval (.tmp 35) = ptr qf 0 := st.old hl 35 (by kernel_rfl); have eg : a1.eval (.tmp 193) = .bool true := st.done 22 193 (hdep ⟨22, .guard⟩ (by simp) rfl) rfl; exact AnyOrder.step_value rfl ((AnyOrder.wanted_of rfl rfl eg).trans rfl) (w1.V of pf) (run_load_bk e0 (At.step BKf.out st.inv)) st.inv (Below.refl _ _) rfl)
                | 26, ho => (injection ho with ho; subst ho; have ec : ∀ v, a1.eval (.const v) = v := fun _ => rfl; have ef : ∀ f, a1.eval (.func f) = .func (.func f) #[] #[] := fun _ => rfl; have e0 : a1.eval (.tmp 196) = w1.V of pf := st.done 25 196 (hdep ⟨25, .data⟩ (by simp) rfl) rfl; have eg : a1.eval (.tmp 193) = .bool true := st.done 22 193 (hdep ⟨22, .guard⟩ (by simp) rfl) rfl; exact AnyOrder.step_call rfl ((AnyOrder.wanted_of rfl rfl eg).trans rfl) 8 #[w1.V of pf] (by generalize a1.eval = ρ at ec ef e0 ⊢; simp [execOp, ec, ef, e0, go_sem]) ((live_any (ATf.out.step st.inv)).mono (fun e w4 h => by obtain ⟨vk, rfl, ho, hb⟩ := h; exact ⟨_, rfl, st.inv.trans (hb.mono st.inv.size), hb, by have h2 := ho.rd; rw [HLW.out] at h2; exact h2⟩)))
                | 27, ho => (injection ho with ho; subst ho; have ec : ∀ v, a1.eval (.const v) = v := fun _ => rfl; have ef : ∀ f, a1.eval (.func f) = .func (.func f) #[] #[] := fun _ => rfl; have e0 := st.done 24 195 (hdep ⟨24, .data⟩ (by simp) rfl) rfl; have e1 := st.done 26 197 (hdep ⟨26, .data⟩ (by simp) rfl) rfl; have eg : a1.eval (.tmp 193) = .bool true := st.done 22 193 (hdep ⟨22, .guard⟩ (by simp) rfl) rfl; obtain ⟨v0, f0⟩ : ∃ v, a1.eval (.tmp 195) = v := ⟨_, rfl⟩; obtain ⟨v1, f1⟩ : ∃ v, a1.eval (.tmp 197) = v := ⟨_, rfl⟩; rw [f0] at e0; rw [f1] at e1; have e0 : Sh.Rd Sh.eC w2 v0 (r1.live.map (·.2)) := e0; have e1 : Sh.Rd Sh.eC w2 v1 (r1.live.map (·.2)) := e1; exact AnyOrder.step_call rfl ((AnyOrder.wanted_of rfl rfl eg).trans rfl) 17 #[v0, v1] (by generalize a1.eval = ρ at ec ef f0 f1 ⊢; simp [execOp, ec, ef, f0, f1, go_sem]) ((calls_rows e0 e1 (by rw [List.length_map]; have := HR1.out; omega)).mono (fun e w4 h => by obtain ⟨rfl, hb⟩ := h; exact ⟨_, rfl, st.inv.trans (hb.mono st.inv.size), hb, by rw [decide_eq_true rfl]; rfl⟩)))
                | 28, ho => (injection ho with ho; subst ho; have ec : ∀ v, a1.eval (.const v) = v := fun _ => rfl; have ef : ∀ f, a1.eval (.func f) = .func (.func f) #[] #[] := fun _ => rfl; have e0 : a1.eval (.tmp 193) = .bool true := st.done 22 193 (hdep ⟨22, .data⟩ (by simp) rfl) rfl; have e1 : a1.eval (.tmp 198) = .bool true := st.done 27 198 (hdep ⟨27, .data⟩ (by simp) rfl) rfl; exact AnyOrder.step_value rfl (AnyOrder.wanted_none rfl) (.bool true) (by generalize a1.eval = ρ at ec ef e0 e1 ⊢; simp [execOp, ec, ef, e0, e1, IntWalk.i64_left, go_sem]) st.inv (Below.refl _ _) rfl)
                | 29, ho => (injection ho with ho; subst ho; have ec : ∀ v, a1.eval (.const v) = v := fun _ => rfl; have ef : ∀ f, a1.eval (.func f) = .func (.func f) #[] #[] := fun _ => rfl; have e0 : a1.eval (.tmp 199) = .bool true := st.done 28 199 (hdep ⟨28, .data⟩ (by simp) rfl) rfl; exact AnyOrder.step_value rfl (AnyOrder.wanted_none rfl) (.bool true) (AnyOrder.run_move e0) st.inv (Below.refl _ _) rfl)
                | 30, ho => (injection ho with ho; subst ho; have ec : ∀ v, a1.eval (.const v) = v := fun _ => rfl; have ef : ∀ f, a1.eval (.func f) = .func (.func f) #[] #[] := fun _ => rfl; have e0 : a1.eval (.tmp 26) = ptr qc 0 := st.old hl 26 (by kernel_rfl); have eg : a1.eval (.tmp 200) = .bool true := st.done 29 200 (hdep ⟨29, .guard⟩ (by simp) rfl) rfl; exact AnyOrder.step_value rfl ((AnyOrder.wanted_of rfl rfl eg).trans rfl) (r1.V oc pc) (run_load_bk e0 (At.step BKc.out st.inv)) st.inv (Below.refl _ _) rfl)
                | 31, ho => (injection ho with ho; subst ho; have ec : ∀ v, a1.eval (.const v) = v := fun _ => rfl; have ef : ∀ f, a1.eval (.func f) = .func (.func f) #[] #[] := fun _ => rfl; have e0 : a1.eval (.tmp 201) = r1.V oc pc := st.done 30 201 (hdep ⟨30, .data⟩ (by simp) rfl) rfl; have eg : a1.eval (.tmp 200) = .bool true := st.done 29 200 (hdep ⟨29, .chain⟩ (by simp) rfl) rfl; exact AnyOrder.step_call rfl ((AnyOrder.wanted_of rfl rfl eg).trans rfl) 7 #[r1.V oc pc] (by generalize a1.eval = ρ at ec ef e0 ⊢; simp [execOp, ec, ef, e0, go_sem]) ((index_any r1 oc pc w2).mono (fun e w3 h => by obtain ⟨rfl, hb⟩ := h; exact ⟨_, rfl, st.inv.trans (hb.mono st.inv.size), hb, rfl⟩)))
                | 32, ho => (injection ho with ho; subst ho; have ec : ∀ v, a1.eval (.const v) = v := fun _ => rfl; have ef : ∀ f, a1.eval (.func f) = .func (.func f) #[] #[] := fun _ => rfl; have e0 : a1.eval (.tmp 35) = ptr qf 0 := st.old hl 35 (by kernel_rfl); have eg : a1.eval (.tmp 200) = .bool true := st.done 29 200 (hdep ⟨29, .guard⟩ (by simp) rfl) rfl; exact AnyOrder.step_value rfl ((AnyOrder.wanted_of rfl rfl eg).trans rfl) (w1.V of pf) (run_load_bk e0 (At.step BKf.out st.inv)) st.inv (Below.refl _ _) rfl)
                | 33, ho => (injection ho with ho; subst ho; have ec : ∀ v, a1.eval (.const v) = v := fun _ => rfl; have ef : ∀ f, a1.eval (.func f) = .func (.func f) #[] #[] := fun _ => rfl; have e0 : a1.eval (.tmp 203) = w1.V of pf := st.done 32 203 (hdep ⟨32, .data⟩ (by simp) rfl) rfl; have eg : a1.eval (.tmp 200) = .bool true := st.done 29 200 (hdep ⟨29, .guard⟩ (by simp) rfl) rfl; exact AnyOrder.step_call rfl ((AnyOrder.wanted_of rfl rfl eg).trans rfl) 7 #[w1.V of pf] (by generalize a1.eval = ρ at ec ef e0 ⊢; simp [execOp, ec, ef, e0, go_sem]) (((show Calls Try.prog 7 _ w2 (Num w2 r1.ix) from by have h := index_any w1 of pf w2; rwa [HIX.out] at h)).mono (fun e w3 h => by obtain ⟨rfl, hb⟩ := h; exact ⟨_, rfl, st.inv.trans (hb.mono st.inv.size), hb, rfl⟩)))
                | 34, ho => (injection ho with ho; subst ho; have ec : ∀ v, a1.eval (.const v) = v := fun _ => rfl; have ef : ∀ f, a1.eval (.func f) = .func (.func f) #[] #[] := fun _ => rfl; have e0 : a1.eval (.tmp 202) = .int .i64 r1.ix := st.done 31 202 (hdep ⟨31, .data⟩ (by simp) rfl) rfl; have e1 : a1.eval (.tmp 204) = .int .i64 r1.ix := st.done 33 204 (hdep ⟨33, .data⟩ (by simp) rfl) rfl; have eg : a1.eval (.tmp 200) = .bool true := st.done 29 200 (hdep ⟨29, .guard⟩ (by simp) rfl) rfl; exact AnyOrder.step_value rfl ((AnyOrder.wanted_of rfl rfl eg).trans rfl) (.bool true) (by generalize a1.eval = ρ at ec ef e0 e1 ⊢; simp [execOp, ec, ef, e0, e1, IntWalk.i64_left, go_sem]) st.inv (Below.refl _ _) rfl)
                | 35, ho => (injection ho with ho; subst ho; have ec : ∀ v, a1.eval (.const v) = v := fun _ => rfl; have ef : ∀ f, a1.eval (.func f) = .func (.func f) #[] #[] := fun _ => rfl; have e0 : a1.eval (.tmp 200) = .bool true := st.done 29 200 (hdep ⟨29, .data⟩ (by simp) rfl) rfl; have e1 : a1.eval (.tmp 205) = .bool true := st.done 34 205 (hdep ⟨34, .data⟩ (by simp) rfl) rfl; exact AnyOrder.step_value rfl (AnyOrder.wanted_none rfl) (.bool true) (by generalize a1.eval = ρ at ec ef e0 e1 ⊢; simp [execOp, ec, ef, e0, e1, IntWalk.i64_left, go_sem]) st.inv (Below.refl _ _) rfl)
                | 36, ho => (injection ho with ho; subst ho; have ec : ∀ v, a1.eval (.const v) = v := fun _ => rfl; have ef : ∀ f, a1.eval (.func f) = .func (.func f) #[] #[] := fun _ => rfl; have e0 : a1.eval (.tmp 206) = .bool true := st.done 35 206 (hdep ⟨35, .data⟩ (by simp) rfl) rfl; exact AnyOrder.step_value rfl (AnyOrder.wanted_none rfl) (.bool true) (AnyOrder.run_move e0) st.inv (Below.refl _ _) rfl)
                | 37, ho => (injection ho with ho; subst ho; have ec : ∀ v, a1.eval (.const v) = v := fun _ => rfl; have ef : ∀ f, a1.eval (.func f) = .func (.func f) #[] #[] := fun _ => rfl; have e0 : a1.eval (.tmp 26) = ptr qc 0 := st.old hl 26 (by kernel_rfl); have eg : a1.eval (.tmp 207) = .bool true := st.done 36 207 (hdep ⟨36, .guard⟩ (by simp) rfl) rfl; exact AnyOrder.step_value rfl ((AnyOrder.wanted_of rfl rfl eg).trans rfl) (r1.V oc pc) (run_load_bk e0 (At.step BKc.out st.inv)) st.inv (Below.refl _ _) rfl)
                | 38, ho => (injection ho with ho; subst ho; have ec : ∀ v, a1.eval (.const v) = v := fun _ => rfl; have ef : ∀ f, a1.eval (.func f) = .func (.func f) #[] #[] := fun _ => rfl; have e0 : a1.eval (.tmp 208) = r1.V oc pc := st.done 37 208 (hdep ⟨37, .data⟩ (by simp) rfl) rfl; have eg : a1.eval (.tmp 207) = .bool true := st.done 36 207 (hdep ⟨36, .chain⟩ (by simp) rfl) rfl; exact AnyOrder.step_call rfl ((AnyOrder.wanted_of rfl rfl eg).trans rfl) 18 #[r1.V oc pc, .int .i64 1] (by generalize a1.eval = ρ at ec ef e0 ⊢; simp [execOp, ec, ef, e0, go_sem]) (((show Calls Try.prog 18 _ w2 (Num w2 mr) from by have h := mode_any r1 oc pc 1 w2; rwa [HMR.out] at h)).mono (fun e w3 h => by obtain ⟨rfl, hb⟩ := h; exact ⟨_, rfl, st.inv.trans (hb.mono st.inv.size), hb, rfl⟩)))
                | 39, ho => (injection ho with ho; subst ho; have ec : ∀ v, a1.eval (.const v) = v := fun _ => rfl; have ef : ∀ f, a1.eval (.func f) = .func (.func f) #[] #[] := fun _ => rfl; have e0 : a1.eval (.tmp 35) = ptr qf 0 := st.old hl 35 (by kernel_rfl); have eg : a1.eval (.tmp 207) = .bool true := st.done 36 207 (hdep ⟨36, .guard⟩ (by simp) rfl) rfl; exact AnyOrder.step_value rfl ((AnyOrder.wanted_of rfl rfl eg).trans rfl) (w1.V of pf) (run_load_bk e0 (At.step BKf.out st.inv)) st.inv (Below.refl _ _) rfl)
                | 40, ho => (injection ho with ho; subst ho; have ec : ∀ v, a1.eval (.const v) = v := fun _ => rfl; have ef : ∀ f, a1.eval (.func f) = .func (.func f) #[] #[] := fun _ => rfl; have e0 : a1.eval (.tmp 210) = w1.V of pf := st.done 39 210 (hdep ⟨39, .data⟩ (by simp) rfl) rfl; have eg : a1.eval (.tmp 207) = .bool true := st.done 36 207 (hdep ⟨36, .guard⟩ (by simp) rfl) rfl; exact AnyOrder.step_call rfl ((AnyOrder.wanted_of rfl rfl eg).trans rfl) 18 #[w1.V of pf, .int .i64 1] (by generalize a1.eval = ρ at ec ef e0 ⊢; simp [execOp, ec, ef, e0, go_sem]) (((show Calls Try.prog 18 _ w2 (Num w2 mr) from by have h := mode_any w1 of pf 1 w2; rwa [HMD.out] at h)).mono (fun e w3 h => by obtain ⟨rfl, hb⟩ := h; exact ⟨_, rfl, st.inv.trans (hb.mono st.inv.size), hb, rfl⟩)))
                | 41, ho => (injection ho with ho; subst ho; have ec : ∀ v, a1.eval (.const v) = v := fun _ => rfl; have ef : ∀ f, a1.eval (.func f) = .func (.func f) #[] #[] := fun _ => rfl; have e0 : a1.eval (.tmp 209) = .int .i64 mr := st.done 38 209 (hdep ⟨38, .data⟩ (by simp) rfl) rfl; have e1 : a1.eval (.tmp 211) = .int .i64 mr := st.done 40 211 (hdep ⟨40, .data⟩ (by simp) rfl) rfl; have eg : a1.eval (.tmp 207) = .bool true := st.done 36 207 (hdep ⟨36, .guard⟩ (by simp) rfl) rfl; exact AnyOrder.step_value rfl ((AnyOrder.wanted_of rfl rfl eg).trans rfl) (.bool true) (by generalize a1.eval = ρ at ec ef e0 e1 ⊢; simp [execOp, ec, ef, e0, e1, IntWalk.i64_left, go_sem]) st.inv (Below.refl _ _) rfl)
                | 42, ho => (injection ho with ho; subst ho; have ec : ∀ v, a1.eval (.const v) = v := fun _ => rfl; have ef : ∀ f, a1.eval (.func f) = .func (.func f) #[] #[] := fun _ => rfl; have e0 : a1.eval (.tmp 207) = .bool true := st.done 36 207 (hdep ⟨36, .data⟩ (by simp) rfl) rfl; have e1 : a1.eval (.tmp 212) = .bool true := st.done 41 212 (hdep ⟨41, .data⟩ (by simp) rfl) rfl; exact AnyOrder.step_value rfl (AnyOrder.wanted_none rfl) (.bool true) (by generalize a1.eval = ρ at ec ef e0 e1 ⊢; simp [execOp, ec, ef, e0, e1, IntWalk.i64_left, go_sem]) st.inv (Below.refl _ _) rfl)
                | 43, ho => (injection ho with ho; subst ho; have ec : ∀ v, a1.eval (.const v) = v := fun _ => rfl; have ef : ∀ f, a1.eval (.func f) = .func (.func f) #[] #[] := fun _ => rfl; have e0 : a1.eval (.tmp 213) = .bool true := st.done 42 213 (hdep ⟨42, .data⟩ (by simp) rfl) rfl; exact AnyOrder.step_value rfl (AnyOrder.wanted_none rfl) (.bool true) (AnyOrder.run_move e0) st.inv (Below.refl _ _) rfl)
                | 44, ho => (injection ho with ho; subst ho; have ec : ∀ v, a1.eval (.const v) = v := fun _ => rfl; have ef : ∀ f, a1.eval (.func f) = .func (.func f) #[] #[] := fun _ => rfl; have e0 : a1.eval (.tmp 26) = ptr qc 0 := st.old hl 26 (by kernel_rfl); have eg : a1.eval (.tmp 214) = .bool true := st.done 43 214 (hdep ⟨43, .guard⟩ (by simp) rfl) rfl; exact AnyOrder.step_value rfl ((AnyOrder.wanted_of rfl rfl eg).trans rfl) (r1.V oc pc) (run_load_bk e0 (At.step BKc.out st.inv)) st.inv (Below.refl _ _) rfl)
                | 45, ho => (injection ho with ho; subst ho; have ec : ∀ v, a1.eval (.const v) = v := fun _ => rfl; have ef : ∀ f, a1.eval (.func f) = .func (.func f) #[] #[] := fun _ => rfl; have e0 : a1.eval (.tmp 215) = r1.V oc pc := st.done 44 215 (hdep ⟨44, .data⟩ (by simp) rfl) rfl; have eg : a1.eval (.tmp 214) = .bool true := st.done 43 214 (hdep ⟨43, .chain⟩ (by simp) rfl) rfl; exact AnyOrder.step_call rfl ((AnyOrder.wanted_of rfl rfl eg).trans rfl) 8 #[r1.V oc pc] (by generalize a1.eval = ρ at ec ef e0 ⊢; simp [execOp, ec, ef, e0, go_sem]) ((live_any (ATc.out.step st.inv)).mono (fun e w4 h => by obtain ⟨vk, rfl, ho, hb⟩ := h; exact ⟨_, rfl, st.inv.trans (hb.mono st.inv.size), hb, by have h2 := ho.rd; exact h2⟩)))
                | 46, ho => (injection ho with ho; subst ho; have ec : ∀ v, a1.eval (.const v) = v := fun _ => rfl; have ef : ∀ f, a1.eval (.func f) = .func (.func f) #[] #[] := fun _ => rfl; have e0 := st.done 45 216 (hdep ⟨45, .data⟩ (by simp) rfl) rfl; have eg : a1.eval (.tmp 214) = .bool true := st.done 43 214 (hdep ⟨43, .guard⟩ (by simp) rfl) rfl; obtain ⟨O, cc, e0⟩ := rd_len e0; rw [List.length_map] at e0; exact AnyOrder.step_value rfl ((AnyOrder.wanted_of rfl rfl eg).trans rfl) (.int .i64 (r1.live.length : Int)) (by generalize a1.eval = ρ at ec ef e0 ⊢; simp [execOp, ec, ef, e0, go_sem]) st.inv (Below.refl _ _) rfl)
                | 47, ho => (injection ho with ho; subst ho; have ec : ∀ v, a1.eval (.const v) = v := fun _ => rfl; have ef : ∀ f, a1.eval (.func f) = .func (.func f) #[] #[] := fun _ => rfl; have e0 : a1.eval (.tmp 11) = ptr q 0 := st.old hl 11 (by kernel_rfl); have eg : a1.eval (.tmp 214) = .bool true := st.done 43 214 (hdep ⟨43, .guard⟩ (by simp) rfl) rfl; exact AnyOrder.step_value rfl ((AnyOrder.wanted_of rfl rfl eg).trans rfl) (s.V o p) (run_load_bk e0 (At.step BK.out st.inv)) st.inv (Below.refl _ _) rfl)
                | 48, ho => (injection ho with ho; subst ho; have ec : ∀ v, a1.eval (.const v) = v := fun _ => rfl; have ef : ∀ f, a1.eval (.func f) = .func (.func f) #[] #[] := fun _ => rfl; have e0 : a1.eval (.tmp 218) = s.V o p := st.done 47 218 (hdep ⟨47, .data⟩ (by simp) rfl) rfl; have eg : a1.eval (.tmp 214) = .bool true := st.done 43 214 (hdep ⟨43, .guard⟩ (by simp) rfl) rfl; exact AnyOrder.step_call rfl ((AnyOrder.wanted_of rfl rfl eg).trans rfl) 8 #[s.V o p] (by generalize a1.eval = ρ at ec ef e0 ⊢; simp [execOp, ec, ef, e0, go_sem]) ((live_any (HAT.out.step st.inv)).mono (fun e w4 h => by obtain ⟨vk, rfl, ho, hb⟩ := h; exact ⟨_, rfl, st.inv.trans (hb.mono st.inv.size), hb, by have h2 := ho.rd; exact h2⟩)))
                | 49, ho => (injection ho with ho; subst ho; have ec : ∀ v, a1.eval (.const v) = v := fun _ => rfl; have ef : ∀ f, a1.eval (.func f) = .func (.func f) #[] #[] := fun _ => rfl; have e0 := st.done 48 219 (hdep ⟨48, .data⟩ (by simp) rfl) rfl; have eg : a1.eval (.tmp 214) = .bool true := st.done 43 214 (hdep ⟨43, .guard⟩ (by simp) rfl) rfl; obtain ⟨O, cc, e0⟩ := rd_len e0; rw [List.length_map] at e0; exact AnyOrder.step_value rfl ((AnyOrder.wanted_of rfl rfl eg).trans rfl) (.int .i64 (s.live.length : Int)) (by generalize a1.eval = ρ at ec ef e0 ⊢; simp [execOp, ec, ef, e0, go_sem]) st.inv (Below.refl _ _) rfl)
                | 50, ho => (injection ho with ho; subst ho; have ec : ∀ v, a1.eval (.const v) = v := fun _ => rfl; have ef : ∀ f, a1.eval (.func f) = .func (.func f) #[] #[] := fun _ => rfl; have e0 : a1.eval (.tmp 220) = .int .i64 (s.live.length : Int) := st.done 49 220 (hdep ⟨49, .data⟩ (by simp) rfl) rfl; have eg : a1.eval (.tmp 214) = .bool true := st.done 43 214 (hdep ⟨43, .guard⟩ (by simp) rfl) rfl; exact AnyOrder.step_value rfl ((AnyOrder.wanted_of rfl rfl eg).trans rfl) (.int .i64 (r1.live.length : Int)) (by generalize a1.eval = ρ at ec ef e0 ⊢; simp [execOp, ec, ef, e0, IntWalk.i64_left, hsub, go_sem]) st.inv (Below.refl _ _) rfl)
                | 51, ho => (injection ho with ho; subst ho; have ec : ∀ v, a1.eval (.const v) = v := fun _ => rfl; have ef : ∀ f, a1.eval (.func f) = .func (.func f) #[] #[] := fun _ => rfl; have e0 : a1.eval (.tmp 217) = .int .i64 (r1.live.length : Int) := st.done 46 217 (hdep ⟨46, .data⟩ (by simp) rfl) rfl; have e1 : a1.eval (.tmp 221) = .int .i64 (r1.live.length : Int) := st.done 50 221 (hdep ⟨50, .data⟩ (by simp) rfl) rfl; have eg : a1.eval (.tmp 214) = .bool true := st.done 43 214 (hdep ⟨43, .guard⟩ (by simp) rfl) rfl; exact AnyOrder.step_value rfl ((AnyOrder.wanted_of rfl rfl eg).trans rfl) (.bool true) (by generalize a1.eval = ρ at ec ef e0 e1 ⊢; simp [execOp, ec, ef, e0, e1, IntWalk.i64_left, go_sem]) st.inv (Below.refl _ _) rfl)
                | 52, ho => (injection ho with ho; subst ho; have ec : ∀ v, a1.eval (.const v) = v := fun _ => rfl; have ef : ∀ f, a1.eval (.func f) = .func (.func f) #[] #[] := fun _ => rfl; have e0 : a1.eval (.tmp 214) = .bool true := st.done 43 214 (hdep ⟨43, .data⟩ (by simp) rfl) rfl; have e1 : a1.eval (.tmp 222) = .bool true := st.done 51 222 (hdep ⟨51, .data⟩ (by simp) rfl) rfl; exact AnyOrder.step_value rfl (AnyOrder.wanted_none rfl) (.bool true) (by generalize a1.eval = ρ at ec ef e0 e1 ⊢; simp [execOp, ec, ef, e0, e1, IntWalk.i64_left, go_sem]) st.inv (Below.refl _ _) rfl)
                | n + 53, ho => exact absurd hin (by omega)
              · intro wz hJ
                simp only [AnyOrder.finK, List.take_succ_cons, List.take_zero, List.drop_succ_cons, List.drop_zero, Act.put, List.setIfInBounds_toArray, List.set_cons_zero, List.set_cons_succ]
                intro v24 h24 v26 h26 v45 h45 v48 h48
                go_wp2_with fail
                go_ret
                exact ⟨rfl, HB.out.trans (hJ.mono HB.out.size)⟩
end Go.Proofs.Ytodacdooooeofaa
