/- BucketExact: its walk. -/
import Derived.Test.YtepfgheliddpmaaBuG
import Derived.Test.YtepfgheliddpmaaBuArgs
namespace Go.Proofs.Ytepfgheliddpmaa
open Go.RowKit Go.Lib
set_option linter.unusedVariables false
set_option linter.unusedSimpArgs false

theorem run_neqBt_self {ρ : Operand → Value} {w : World} {d : Option Tmp} {t t2 : TypeId} {pos : String} {af : Array Edge} {gd : Option (Nat × Bool)} {a b : Operand} {x : Bt} (e1 : ρ a = x.V) (e2 : ρ b = x.V) :
    (execOp ρ { dst := d, op := Op.binOp .neq 26 a b t2, type := t, pos := pos, after := af, guard := gd }).run Try.prog w = .ok (.value (.bool false)) w := by
  rw [run_neqBt e1 e2, Bt.beq_self]; rfl
/-- a configuration, a bucket, what was taken, what is wanted -/
structure EX (w W : World) (p r s u : Nat) (c : Cfg) (b d x : Bt) : Prop where
  cf : CAt W p c
  bt : BtAt W r b
  dt : BtAt W s d
  wt : BtAt W u x
  n1 : p ≠ u
  n2 : r ≠ u
  n3 : s ≠ u
  le : w.heap.size ≤ u
  bel : Below w.heap.size w W
section
variable {w W W' : World} {p r s u : Nat} {c : Cfg} {b d x : Bt}
theorem EX.step (h : EX w W p r s u c b d x) (hb : Below W.heap.size W W') : EX w W' p r s u c b d x :=
  ⟨h.cf.step hb, h.bt.step hb, h.dt.step hb, h.wt.step hb, h.n1, h.n2, h.n3, h.le, h.bel.trans (hb.mono h.bel.size)⟩
theorem EX.put (h : EX w W p r s u c b d x) (y : Bt) : EX w (W.setRow u y.cells) p r s u c b d y :=
  ⟨(setRow_other W u p y.cells h.n1).trans h.cf, (setRow_other W u r y.cells h.n2).trans h.bt, (setRow_other W u s y.cells h.n3).trans h.dt, BtAt.setRow h.wt y, h.n1, h.n2, h.n3, h.le, below_setRow h.bel h.le _⟩
theorem CB.ex (h : CB w W p r c b) (hd : BtAt W s d) (y : Bt) : EX w (W.alloc (.cells y.cells 26)) p r s W.heap.size c b d y :=
  ⟨h.cf.step (below_new _ _), h.bt.step (below_new _ _), hd.step (below_new _ _), BtAt.new W y, Nat.ne_of_lt (At.lt h.cf), Nat.ne_of_lt (At.lt h.bt), Nat.ne_of_lt (At.lt hd), h.bel.size, h.bel.trans ((below_new _ _).mono h.bel.size)⟩
end

set_option maxRecDepth 100000 in
set_option maxHeartbeats 4000000 in
theorem bucketExact_ok (c : Cfg) (b : Bt) (now : Int) (w : World) : Calls Try.prog 3 #[c.V, b.V, .int .i64 now] w fun e w' => e = .returned (.bool true) ∧ Below w.heap.size w w' := by
  have H := Lib.hid (new2 w c.cells b.cells 24 26)
  have HL : Hid (w.heap.size ≤ w.heap.size + 1) := Lib.hid (by omega)
  have CN := Lib.hid (fun W => new_any c now W)
  have CK := Lib.hid (fun W => bcheck_any c b W)
  have CZ := Lib.hid (fun W => rgood_any c b.tok b.last 0 W)
  rw [show tick 0 = true by decide, Bool.and_true] at CZ
  have CG := Lib.hid (fun W => rgood_any c b.tok b.last now W)
  have CR := Lib.hid (fun W => rlevel_any c b.tok b.last now W)
  have CT := Lib.hid (fun W => btake_any c b now W)
  have CL := Lib.hid (fun W => blevel_any c b now W)
  have CU := Lib.hid (fun W => buntil_any c b now W)
  by_cases hg : (okB c b.tok b.last && tick now) = true
  · by_cases h0 : 0 < lev c b.tok b.last now
    · have htk : tkn c b now = ⟨lev c b.tok b.last now - 1, max now b.last⟩ := if_pos h0
      have hun : unt c b now = 0 := by unfold unt; rw [hg, if_pos h0]; rfl
      have hin := lev_in c b.tok b.last now
      rw [htk, decide_eq_true h0] at CT
      rw [hun] at CU
      have d1 : decide (lev c b.tok b.last now > 0) = true := decide_eq_true h0
      have d2 : (lev c b.tok b.last now == 0) = false := by simp; omega
      have d3 : decide (lev c b.tok b.last now = 0) = false := decide_eq_false (by omega)
      have x1 : IntKind.i64.wrap (lev c b.tok b.last now - 1) = lev c b.tok b.last now - 1 := i64w (by omega) (by omega)
      rw [hg] at CG
      clear htk hun hin h0
      rcases Int.lt_trichotomy now b.last with hl | hl | hl
      · rw [show max now b.last = b.last by omega] at CT
        have hl2 : ¬ b.last < now := by omega
        have hl3 : ¬ b.last ≤ now := by omega
        generalize okB c b.tok b.last = g at *
        generalize lev c b.tok b.last now = n at *
        clear hg
        go_enter Try.func3, Try.ntmps3
        go_upto_region 1 with fail
        obtain ⟨W, hW⟩ : ∃ W, (w.alloc (.cells c.cells 24)).alloc (.cells b.cells 26) = W := ⟨_, rfl⟩
        rw [hW] at H ⊢; clear hW
        have HS : Hid (CB w W w.heap.size (w.heap.size + 1) c b) := Lib.hid ⟨H.out.2.1, H.out.2.2, HL.out, H.out.1⟩
        clear H HL
        generalize w.heap.size + 1 = r at *
        go_wp2_with fail
        refine (awake_any _).mono ?_
        rintro e w1 ⟨rfl, hb⟩
        replace HS := Lib.hid (HS.out.step hb)
        clear hb
        go_upto_region 3 with fail
        refine AnyOrder.region_kinds2 20 [.eq (c.V), .eq (.int .i64 now), .eq ((⟨c.get 7, now⟩ : Bt).V), .eq (ptr w.heap.size 7), .eq (.int .i64 (c.get 7)), .eq (.int .i64 now), .eq (.agg #[.int .i64 (c.get 7), .int .i64 now]), .eq (.bool false), .eq (.bool false), .eq (c.V), .eq (b.V), .eq (.bool g), .eq (c.V), .eq (ptr r 0), .eq (.int .i64 b.tok), .eq (ptr r 1), .eq (.int .i64 b.last), .eq (.bool g), .eq (.bool false), .eq (.bool false)] (fun wx => Below w1.heap.size w1 wx) (by kernel_rfl) (by kernel_rfl) rfl (by kernel_rfl) (below_drewN (Below.refl _ _) 1) (fun p _ _ hp => by simp at hp) ?_ ?_
        · intro i o listed a1 w2 hin ho st hl hdep
          match i, ho with
          | 0, ho => (injection ho with ho; subst ho; have ec : ∀ v, a1.eval (.const v) = v := fun _ => rfl; have ef : ∀ f, a1.eval (.func f) = .func (.func f) #[] #[] := fun _ => rfl; have e0 : a1.eval (.tmp 3) = ptr w.heap.size 0 := st.old hl 3 (by kernel_rfl); exact AnyOrder.step_value rfl (AnyOrder.wanted_none rfl) (c.V) (run_load_cfg e0 (HS.out.cf.step st.inv)) st.inv (Below.refl _ _) rfl)
          | 1, ho => (injection ho with ho; subst ho; have ec : ∀ v, a1.eval (.const v) = v := fun _ => rfl; have ef : ∀ f, a1.eval (.func f) = .func (.func f) #[] #[] := fun _ => rfl; have e0 : a1.eval (.tmp 2) = .int .i64 now := st.old hl 2 (by kernel_rfl); exact AnyOrder.step_value rfl (AnyOrder.wanted_none rfl) (.int .i64 now) (AnyOrder.run_move e0) st.inv (Below.refl _ _) rfl)
          | 2, ho => (injection ho with ho; subst ho; have ec : ∀ v, a1.eval (.const v) = v := fun _ => rfl; have ef : ∀ f, a1.eval (.func f) = .func (.func f) #[] #[] := fun _ => rfl; have e0 : a1.eval (.tmp 14) = c.V := st.done 0 14 (hdep ⟨0, .data⟩ (by simp) rfl) rfl; have e1 : a1.eval (.tmp 15) = .int .i64 now := st.done 1 15 (hdep ⟨1, .data⟩ (by simp) rfl) rfl; exact AnyOrder.step_call rfl (AnyOrder.wanted_none rfl) 7 #[c.V, .int .i64 now] (by generalize a1.eval = ρ at ec ef e0 e1 ⊢; simp [execOp, ec, ef, e0, e1, go_sem]) ((CN.out _).mono (fun e w3 h => by obtain ⟨rfl, hb⟩ := h; exact ⟨_, rfl, st.inv.trans (hb.mono st.inv.size), hb, rfl⟩)))
          | 3, ho => (injection ho with ho; subst ho; have ec : ∀ v, a1.eval (.const v) = v := fun _ => rfl; have ef : ∀ f, a1.eval (.func f) = .func (.func f) #[] #[] := fun _ => rfl; have e0 : a1.eval (.tmp 3) = ptr w.heap.size 0 := st.old hl 3 (by kernel_rfl); exact AnyOrder.step_value rfl (AnyOrder.wanted_none rfl) (ptr w.heap.size 7) (by generalize a1.eval = ρ at ec ef e0 ⊢; simp [execOp, ec, ef, e0, IntWalk.i64_left, go_sem]) st.inv (Below.refl _ _) rfl)
          | 4, ho => (injection ho with ho; subst ho; have ec : ∀ v, a1.eval (.const v) = v := fun _ => rfl; have ef : ∀ f, a1.eval (.func f) = .func (.func f) #[] #[] := fun _ => rfl; have e0 : a1.eval (.tmp 17) = ptr w.heap.size 7 := st.done 3 17 (hdep ⟨3, .data⟩ (by simp) rfl) rfl; exact AnyOrder.step_value rfl (AnyOrder.wanted_none rfl) (.int .i64 (c.get 7)) (by generalize a1.eval = ρ at ec ef e0 ⊢; simp [execOp, ec, ef, e0, IntWalk.i64_left, ((HS.out.cf.step st.inv).get (k := 7) (by omega)), go_sem]) st.inv (Below.refl _ _) rfl)
          | 5, ho => (injection ho with ho; subst ho; have ec : ∀ v, a1.eval (.const v) = v := fun _ => rfl; have ef : ∀ f, a1.eval (.func f) = .func (.func f) #[] #[] := fun _ => rfl; have e0 : a1.eval (.tmp 2) = .int .i64 now := st.old hl 2 (by kernel_rfl); exact AnyOrder.step_value rfl (AnyOrder.wanted_none rfl) (.int .i64 now) (AnyOrder.run_move e0) st.inv (Below.refl _ _) rfl)
          | 6, ho => (injection ho with ho; subst ho; have ec : ∀ v, a1.eval (.const v) = v := fun _ => rfl; have ef : ∀ f, a1.eval (.func f) = .func (.func f) #[] #[] := fun _ => rfl; have e0 : a1.eval (.tmp 18) = .int .i64 (c.get 7) := st.done 4 18 (hdep ⟨4, .data⟩ (by simp) rfl) rfl; have e1 : a1.eval (.tmp 19) = .int .i64 now := st.done 5 19 (hdep ⟨5, .data⟩ (by simp) rfl) rfl; exact AnyOrder.step_value rfl (AnyOrder.wanted_none rfl) (.agg #[.int .i64 (c.get 7), .int .i64 now]) (by generalize a1.eval = ρ at ec ef e0 e1 ⊢; simp [execOp, ec, ef, e0, e1, IntWalk.i64_left, go_sem]) st.inv (Below.refl _ _) rfl)
          | 7, ho => (injection ho with ho; subst ho; have ec : ∀ v, a1.eval (.const v) = v := fun _ => rfl; have ef : ∀ f, a1.eval (.func f) = .func (.func f) #[] #[] := fun _ => rfl; have e0 : a1.eval (.tmp 16) = (⟨c.get 7, now⟩ : Bt).V := st.done 2 16 (hdep ⟨2, .data⟩ (by simp) rfl) rfl; have e1 : a1.eval (.tmp 20) = .agg #[.int .i64 (c.get 7), .int .i64 now] := st.done 6 20 (hdep ⟨6, .data⟩ (by simp) rfl) rfl; exact AnyOrder.step_value rfl (AnyOrder.wanted_none rfl) (.bool false) (run_neqBt_self (x := ⟨c.get 7, now⟩) e0 e1) st.inv (Below.refl _ _) rfl)
          | 8, ho => (injection ho with ho; subst ho; have ec : ∀ v, a1.eval (.const v) = v := fun _ => rfl; have ef : ∀ f, a1.eval (.func f) = .func (.func f) #[] #[] := fun _ => rfl; have e0 : a1.eval (.tmp 21) = .bool false := st.done 7 21 (hdep ⟨7, .data⟩ (by simp) rfl) rfl; exact AnyOrder.step_value rfl (AnyOrder.wanted_none rfl) (.bool false) (AnyOrder.run_move e0) st.inv (Below.refl _ _) rfl)
          | 9, ho => (injection ho with ho; subst ho; have ec : ∀ v, a1.eval (.const v) = v := fun _ => rfl; have ef : ∀ f, a1.eval (.func f) = .func (.func f) #[] #[] := fun _ => rfl; have e0 : a1.eval (.tmp 3) = ptr w.heap.size 0 := st.old hl 3 (by kernel_rfl); have eg : a1.eval (.tmp 22) = .bool false := st.done 8 22 (hdep ⟨8, .guard⟩ (by simp) rfl) rfl; exact AnyOrder.step_value rfl ((AnyOrder.wanted_of rfl rfl eg).trans rfl) (c.V) (run_load_cfg e0 (HS.out.cf.step st.inv)) st.inv (Below.refl _ _) rfl)
          | 10, ho => (injection ho with ho; subst ho; have ec : ∀ v, a1.eval (.const v) = v := fun _ => rfl; have ef : ∀ f, a1.eval (.func f) = .func (.func f) #[] #[] := fun _ => rfl; have e0 : a1.eval (.tmp 4) = ptr r 0 := st.old hl 4 (by kernel_rfl); have eg : a1.eval (.tmp 22) = .bool false := st.done 8 22 (hdep ⟨8, .guard⟩ (by simp) rfl) rfl; exact AnyOrder.step_value rfl ((AnyOrder.wanted_of rfl rfl eg).trans rfl) (b.V) (run_load_bt e0 (HS.out.bt.step st.inv)) st.inv (Below.refl _ _) rfl)
          | 11, ho => (injection ho with ho; subst ho; have ec : ∀ v, a1.eval (.const v) = v := fun _ => rfl; have ef : ∀ f, a1.eval (.func f) = .func (.func f) #[] #[] := fun _ => rfl; have e0 : a1.eval (.tmp 23) = c.V := st.done 9 23 (hdep ⟨9, .data⟩ (by simp) rfl) rfl; have e1 : a1.eval (.tmp 24) = b.V := st.done 10 24 (hdep ⟨10, .data⟩ (by simp) rfl) rfl; have eg : a1.eval (.tmp 22) = .bool false := st.done 8 22 (hdep ⟨8, .chain⟩ (by simp) rfl) rfl; exact AnyOrder.step_call rfl ((AnyOrder.wanted_of rfl rfl eg).trans rfl) 8 #[c.V, b.V] (by generalize a1.eval = ρ at ec ef e0 e1 ⊢; simp [execOp, ec, ef, e0, e1, go_sem]) ((CK.out _).mono (fun e w3 h => by obtain ⟨rfl, hb⟩ := h; exact ⟨_, rfl, st.inv.trans (hb.mono st.inv.size), hb, rfl⟩)))
          | 12, ho => (injection ho with ho; subst ho; have ec : ∀ v, a1.eval (.const v) = v := fun _ => rfl; have ef : ∀ f, a1.eval (.func f) = .func (.func f) #[] #[] := fun _ => rfl; have e0 : a1.eval (.tmp 3) = ptr w.heap.size 0 := st.old hl 3 (by kernel_rfl); have eg : a1.eval (.tmp 22) = .bool false := st.done 8 22 (hdep ⟨8, .guard⟩ (by simp) rfl) rfl; exact AnyOrder.step_value rfl ((AnyOrder.wanted_of rfl rfl eg).trans rfl) (c.V) (run_load_cfg e0 (HS.out.cf.step st.inv)) st.inv (Below.refl _ _) rfl)
          | 13, ho => (injection ho with ho; subst ho; have ec : ∀ v, a1.eval (.const v) = v := fun _ => rfl; have ef : ∀ f, a1.eval (.func f) = .func (.func f) #[] #[] := fun _ => rfl; have e0 : a1.eval (.tmp 4) = ptr r 0 := st.old hl 4 (by kernel_rfl); have eg : a1.eval (.tmp 22) = .bool false := st.done 8 22 (hdep ⟨8, .guard⟩ (by simp) rfl) rfl; exact AnyOrder.step_value rfl ((AnyOrder.wanted_of rfl rfl eg).trans rfl) (ptr r 0) (by generalize a1.eval = ρ at ec ef e0 ⊢; simp [execOp, ec, ef, e0, IntWalk.i64_left, go_sem]) st.inv (Below.refl _ _) rfl)
          | 14, ho => (injection ho with ho; subst ho; have ec : ∀ v, a1.eval (.const v) = v := fun _ => rfl; have ef : ∀ f, a1.eval (.func f) = .func (.func f) #[] #[] := fun _ => rfl; have e0 : a1.eval (.tmp 27) = ptr r 0 := st.done 13 27 (hdep ⟨13, .data⟩ (by simp) rfl) rfl; have eg : a1.eval (.tmp 22) = .bool false := st.done 8 22 (hdep ⟨8, .guard⟩ (by simp) rfl) rfl; exact AnyOrder.step_value rfl ((AnyOrder.wanted_of rfl rfl eg).trans rfl) (.int .i64 b.tok) (by generalize a1.eval = ρ at ec ef e0 ⊢; simp [execOp, ec, ef, e0, IntWalk.i64_left, (HS.out.bt.step st.inv).get0, go_sem]) st.inv (Below.refl _ _) rfl)
          | 15, ho => (injection ho with ho; subst ho; have ec : ∀ v, a1.eval (.const v) = v := fun _ => rfl; have ef : ∀ f, a1.eval (.func f) = .func (.func f) #[] #[] := fun _ => rfl; have e0 : a1.eval (.tmp 4) = ptr r 0 := st.old hl 4 (by kernel_rfl); have eg : a1.eval (.tmp 22) = .bool false := st.done 8 22 (hdep ⟨8, .guard⟩ (by simp) rfl) rfl; exact AnyOrder.step_value rfl ((AnyOrder.wanted_of rfl rfl eg).trans rfl) (ptr r 1) (by generalize a1.eval = ρ at ec ef e0 ⊢; simp [execOp, ec, ef, e0, IntWalk.i64_left, go_sem]) st.inv (Below.refl _ _) rfl)
          | 16, ho => (injection ho with ho; subst ho; have ec : ∀ v, a1.eval (.const v) = v := fun _ => rfl; have ef : ∀ f, a1.eval (.func f) = .func (.func f) #[] #[] := fun _ => rfl; have e0 : a1.eval (.tmp 29) = ptr r 1 := st.done 15 29 (hdep ⟨15, .data⟩ (by simp) rfl) rfl; have eg : a1.eval (.tmp 22) = .bool false := st.done 8 22 (hdep ⟨8, .guard⟩ (by simp) rfl) rfl; exact AnyOrder.step_value rfl ((AnyOrder.wanted_of rfl rfl eg).trans rfl) (.int .i64 b.last) (by generalize a1.eval = ρ at ec ef e0 ⊢; simp [execOp, ec, ef, e0, IntWalk.i64_left, (HS.out.bt.step st.inv).get1, go_sem]) st.inv (Below.refl _ _) rfl)
          | 17, ho => (injection ho with ho; subst ho; have ec : ∀ v, a1.eval (.const v) = v := fun _ => rfl; have ef : ∀ f, a1.eval (.func f) = .func (.func f) #[] #[] := fun _ => rfl; have e0 : a1.eval (.tmp 26) = c.V := st.done 12 26 (hdep ⟨12, .data⟩ (by simp) rfl) rfl; have e1 : a1.eval (.tmp 28) = .int .i64 b.tok := st.done 14 28 (hdep ⟨14, .data⟩ (by simp) rfl) rfl; have e2 : a1.eval (.tmp 30) = .int .i64 b.last := st.done 16 30 (hdep ⟨16, .data⟩ (by simp) rfl) rfl; have eg : a1.eval (.tmp 22) = .bool false := st.done 8 22 (hdep ⟨8, .guard⟩ (by simp) rfl) rfl; exact AnyOrder.step_call rfl ((AnyOrder.wanted_of rfl rfl eg).trans rfl) 9 #[c.V, .int .i64 b.tok, .int .i64 b.last, .int .i64 0] (by generalize a1.eval = ρ at ec ef e0 e1 e2 ⊢; simp [execOp, ec, ef, e0, e1, e2, go_sem]) ((CZ.out _).mono (fun e w3 h => by obtain ⟨rfl, hb⟩ := h; exact ⟨_, rfl, st.inv.trans (hb.mono st.inv.size), hb, rfl⟩)))
          | 18, ho => (injection ho with ho; subst ho; have ec : ∀ v, a1.eval (.const v) = v := fun _ => rfl; have ef : ∀ f, a1.eval (.func f) = .func (.func f) #[] #[] := fun _ => rfl; have e0 : a1.eval (.tmp 25) = .bool g := st.done 11 25 (hdep ⟨11, .data⟩ (by simp) rfl) rfl; have e1 : a1.eval (.tmp 31) = .bool g := st.done 17 31 (hdep ⟨17, .data⟩ (by simp) rfl) rfl; have eg : a1.eval (.tmp 22) = .bool false := st.done 8 22 (hdep ⟨8, .guard⟩ (by simp) rfl) rfl; exact AnyOrder.step_value rfl ((AnyOrder.wanted_of rfl rfl eg).trans rfl) (.bool false) (by generalize a1.eval = ρ at ec ef e0 e1 ⊢; simp [execOp, ec, ef, e0, e1, IntWalk.i64_left, go_sem]) st.inv (Below.refl _ _) rfl)
          | 19, ho => (injection ho with ho; subst ho; have ec : ∀ v, a1.eval (.const v) = v := fun _ => rfl; have ef : ∀ f, a1.eval (.func f) = .func (.func f) #[] #[] := fun _ => rfl; have e0 : a1.eval (.tmp 22) = .bool false := st.done 8 22 (hdep ⟨8, .data⟩ (by simp) rfl) rfl; have e1 : a1.eval (.tmp 32) = .bool false := st.done 18 32 (hdep ⟨18, .data⟩ (by simp) rfl) rfl; exact AnyOrder.step_value rfl (AnyOrder.wanted_none rfl) (.bool false) (by generalize a1.eval = ρ at ec ef e0 e1 ⊢; simp [execOp, ec, ef, e0, e1, IntWalk.i64_left, go_sem]) st.inv (Below.refl _ _) rfl)
          | n + 20, ho => exact absurd hin (by omega)
        · intro w2 hJ
          simp only [AnyOrder.finK, List.take_succ_cons, List.take_zero, List.drop_succ_cons, List.drop_zero, Act.put, List.setIfInBounds_toArray, List.set_cons_zero, List.set_cons_succ]
          replace HS := Lib.hid (HS.out.step hJ)
          clear hJ CN CK CZ
          have k0 := HS.out.bt.get0
          have k1 := HS.out.bt.get1
          go_wp2_with (first | ((with_reducible apply wpList_load_cat (h := HS.out.cf)); exact rfl; exact rfl; exact rfl) | ((with_reducible apply wpList_load_bt (h := HS.out.bt)); exact rfl; exact rfl; exact rfl))
          refine (CR.out _).mono ?_
          rintro e w3 ⟨rfl, hb⟩
          replace HS := Lib.hid (HS.out.step hb)
          clear hb CR
          go_wp2_with (first | ((with_reducible apply wpList_load_cat (h := HS.out.cf)); exact rfl; exact rfl; exact rfl) | ((with_reducible apply wpList_load_bt (h := HS.out.bt)); exact rfl; exact rfl; exact rfl))
          refine (CT.out _).mono ?_
          rintro e w4 ⟨rfl, hb⟩
          replace HS := Lib.hid (HS.out.step hb)
          clear hb CT
          go_upto_region 7 with (refine wpList_store_row rfl 26 _ _ rfl _ (⟨n - 1, b.last⟩ : Bt).cells rfl rfl 26 _ (heap_alloc_new _ _) (sizeBt _) rfl (Bt.one _) ?_; rw [World.setRow_alloc_new])
          have HD := Lib.hid (HS.out.new ⟨n - 1, b.last⟩).2
          replace HS := Lib.hid (HS.out.new ⟨n - 1, b.last⟩).1
          obtain ⟨V, hV⟩ : ∃ V, w4.alloc (.cells (Bt.cells ⟨n - 1, b.last⟩) 26) = V := ⟨_, rfl⟩
          rw [hV] at HD HS ⊢; clear hV
          generalize w4.heap.size = s at *
          go_upto_region 8 with (first | ((with_reducible apply wpList_load_bt (h := HS.out.bt)); exact rfl; exact rfl; exact rfl) | (refine wpList_store_row rfl 26 _ _ rfl _ (b : Bt).cells rfl rfl 26 _ (heap_alloc_new _ _) (sizeBt _) rfl (Bt.one _) ?_; rw [World.setRow_alloc_new]))
          replace HS := Lib.hid (HS.out.ex HD.out b)
          clear HD
          obtain ⟨V1, hV⟩ : ∃ V1, V.alloc (.cells (Bt.cells b) 26) = V1 := ⟨_, rfl⟩
          rw [hV] at HS ⊢; clear hV
          generalize V.heap.size = u at *
          have k1 := HS.out.bt.get1
          go_upto_region 10 with ((with_reducible apply wpList_store_bt (c := ⟨n - 1, b.last⟩) (hq := HS.out.wt)); exact rfl; exact rfl; exact rfl; exact rfl)
          replace HS := Lib.hid (HS.out.put ⟨n - 1, b.last⟩)
          obtain ⟨V2, hV⟩ : ∃ V2, V1.setRow u (Bt.cells ⟨n - 1, b.last⟩) = V2 := ⟨_, rfl⟩
          rw [hV] at HS ⊢; clear hV
          have k0 := HS.out.bt.get0
          have k1 := HS.out.bt.get1
          go_wp2_with (first | ((with_reducible apply wpList_load_cat (h := HS.out.cf)); exact rfl; exact rfl; exact rfl) | ((with_reducible apply wpList_load_bt (h := HS.out.bt)); exact rfl; exact rfl; exact rfl))
          refine (CG.out _).mono ?_
          rintro e w5 ⟨rfl, hb⟩
          replace HS := Lib.hid (HS.out.step hb)
          clear hb CG
          have k0 := HS.out.bt.get0
          have k1 := HS.out.bt.get1
          go_wp2_with (first | ((with_reducible apply wpList_load_cat (h := HS.out.cf)); exact rfl; exact rfl; exact rfl) | ((with_reducible apply wpList_load_bt (h := HS.out.bt)); exact rfl; exact rfl; exact rfl))
          refine (CL.out _).mono ?_
          rintro e w6 ⟨rfl, hb⟩
          replace HS := Lib.hid (HS.out.step hb)
          clear hb CL
          go_wp2_with (first | ((with_reducible apply wpList_load_bt (h := HS.out.dt)); exact rfl; exact rfl; exact rfl) | ((with_reducible apply wpList_load_bt (h := HS.out.wt)); exact rfl; exact rfl; exact rfl) | ((with_reducible apply wpList_load_cat (h := HS.out.cf)); exact rfl; exact rfl; exact rfl) | ((with_reducible apply wpList_load_bt (h := HS.out.bt)); exact rfl; exact rfl; exact rfl) | ((with_reducible apply wpList_eql_bt (c := ⟨n - 1, b.last⟩) (d := ⟨n - 1, b.last⟩) (b := true)); exact rfl; exact rfl; exact rfl; exact rfl; exact Bt.beq_self _))
          refine (CU.out _).mono ?_
          rintro e w7 ⟨rfl, hb⟩
          replace HS := Lib.hid (HS.out.step hb)
          clear hb CU
          go_wp2_with fail
          go_ret
          exact ⟨rfl, HS.out.bel⟩
      · subst hl
        rw [show max b.last b.last = b.last by omega] at CT
        generalize okB c b.tok b.last = g at *
        generalize lev c b.tok b.last b.last = n at *
        clear hg
        go_enter Try.func3, Try.ntmps3
        go_upto_region 1 with fail
        obtain ⟨W, hW⟩ : ∃ W, (w.alloc (.cells c.cells 24)).alloc (.cells b.cells 26) = W := ⟨_, rfl⟩
        rw [hW] at H ⊢; clear hW
        have HS : Hid (CB w W w.heap.size (w.heap.size + 1) c b) := Lib.hid ⟨H.out.2.1, H.out.2.2, HL.out, H.out.1⟩
        clear H HL
        generalize w.heap.size + 1 = r at *
        go_wp2_with fail
        refine (awake_any _).mono ?_
        rintro e w1 ⟨rfl, hb⟩
        replace HS := Lib.hid (HS.out.step hb)
        clear hb
        go_upto_region 3 with fail
        refine AnyOrder.region_kinds2 20 [.eq (c.V), .eq (.int .i64 b.last), .eq ((⟨c.get 7, b.last⟩ : Bt).V), .eq (ptr w.heap.size 7), .eq (.int .i64 (c.get 7)), .eq (.int .i64 b.last), .eq (.agg #[.int .i64 (c.get 7), .int .i64 b.last]), .eq (.bool false), .eq (.bool false), .eq (c.V), .eq (b.V), .eq (.bool g), .eq (c.V), .eq (ptr r 0), .eq (.int .i64 b.tok), .eq (ptr r 1), .eq (.int .i64 b.last), .eq (.bool g), .eq (.bool false), .eq (.bool false)] (fun wx => Below w1.heap.size w1 wx) (by kernel_rfl) (by kernel_rfl) rfl (by kernel_rfl) (below_drewN (Below.refl _ _) 1) (fun p _ _ hp => by simp at hp) ?_ ?_
        · intro i o listed a1 w2 hin ho st hl hdep
          match i, ho with
          | 0, ho => (injection ho with ho; subst ho; have ec : ∀ v, a1.eval (.const v) = v := fun _ => rfl; have ef : ∀ f, a1.eval (.func f) = .func (.func f) #[] #[] := fun _ => rfl; have e0 : a1.eval (.tmp 3) = ptr w.heap.size 0 := st.old hl 3 (by kernel_rfl); exact AnyOrder.step_value rfl (AnyOrder.wanted_none rfl) (c.V) (run_load_cfg e0 (HS.out.cf.step st.inv)) st.inv (Below.refl _ _) rfl)
          | 1, ho => (injection ho with ho; subst ho; have ec : ∀ v, a1.eval (.const v) = v := fun _ => rfl; have ef : ∀ f, a1.eval (.func f) = .func (.func f) #[] #[] := fun _ => rfl; have e0 : a1.eval (.tmp 2) = .int .i64 b.last := st.old hl 2 (by kernel_rfl); exact AnyOrder.step_value rfl (AnyOrder.wanted_none rfl) (.int .i64 b.last) (AnyOrder.run_move e0) st.inv (Below.refl _ _) rfl)
          | 2, ho => (injection ho with ho; subst ho; have ec : ∀ v, a1.eval (.const v) = v := fun _ => rfl; have ef : ∀ f, a1.eval (.func f) = .func (.func f) #[] #[] := fun _ => rfl; have e0 : a1.eval (.tmp 14) = c.V := st.done 0 14 (hdep ⟨0, .data⟩ (by simp) rfl) rfl; have e1 : a1.eval (.tmp 15) = .int .i64 b.last := st.done 1 15 (hdep ⟨1, .data⟩ (by simp) rfl) rfl; exact AnyOrder.step_call rfl (AnyOrder.wanted_none rfl) 7 #[c.V, .int .i64 b.last] (by generalize a1.eval = ρ at ec ef e0 e1 ⊢; simp [execOp, ec, ef, e0, e1, go_sem]) ((CN.out _).mono (fun e w3 h => by obtain ⟨rfl, hb⟩ := h; exact ⟨_, rfl, st.inv.trans (hb.mono st.inv.size), hb, rfl⟩)))
          | 3, ho => (injection ho with ho; subst ho; have ec : ∀ v, a1.eval (.const v) = v := fun _ => rfl; have ef : ∀ f, a1.eval (.func f) = .func (.func f) #[] #[] := fun _ => rfl; have e0 : a1.eval (.tmp 3) = ptr w.heap.size 0 := st.old hl 3 (by kernel_rfl); exact AnyOrder.step_value rfl (AnyOrder.wanted_none rfl) (ptr w.heap.size 7) (by generalize a1.eval = ρ at ec ef e0 ⊢; simp [execOp, ec, ef, e0, IntWalk.i64_left, go_sem]) st.inv (Below.refl _ _) rfl)
          | 4, ho => (injection ho with ho; subst ho; have ec : ∀ v, a1.eval (.const v) = v := fun _ => rfl; have ef : ∀ f, a1.eval (.func f) = .func (.func f) #[] #[] := fun _ => rfl; have e0 : a1.eval (.tmp 17) = ptr w.heap.size 7 := st.done 3 17 (hdep ⟨3, .data⟩ (by simp) rfl) rfl; exact AnyOrder.step_value rfl (AnyOrder.wanted_none rfl) (.int .i64 (c.get 7)) (by generalize a1.eval = ρ at ec ef e0 ⊢; simp [execOp, ec, ef, e0, IntWalk.i64_left, ((HS.out.cf.step st.inv).get (k := 7) (by omega)), go_sem]) st.inv (Below.refl _ _) rfl)
          | 5, ho => (injection ho with ho; subst ho; have ec : ∀ v, a1.eval (.const v) = v := fun _ => rfl; have ef : ∀ f, a1.eval (.func f) = .func (.func f) #[] #[] := fun _ => rfl; have e0 : a1.eval (.tmp 2) = .int .i64 b.last := st.old hl 2 (by kernel_rfl); exact AnyOrder.step_value rfl (AnyOrder.wanted_none rfl) (.int .i64 b.last) (AnyOrder.run_move e0) st.inv (Below.refl _ _) rfl)
          | 6, ho => (injection ho with ho; subst ho; have ec : ∀ v, a1.eval (.const v) = v := fun _ => rfl; have ef : ∀ f, a1.eval (.func f) = .func (.func f) #[] #[] := fun _ => rfl; have e0 : a1.eval (.tmp 18) = .int .i64 (c.get 7) := st.done 4 18 (hdep ⟨4, .data⟩ (by simp) rfl) rfl; have e1 : a1.eval (.tmp 19) = .int .i64 b.last := st.done 5 19 (hdep ⟨5, .data⟩ (by simp) rfl) rfl; exact AnyOrder.step_value rfl (AnyOrder.wanted_none rfl) (.agg #[.int .i64 (c.get 7), .int .i64 b.last]) (by generalize a1.eval = ρ at ec ef e0 e1 ⊢; simp [execOp, ec, ef, e0, e1, IntWalk.i64_left, go_sem]) st.inv (Below.refl _ _) rfl)
          | 7, ho => (injection ho with ho; subst ho; have ec : ∀ v, a1.eval (.const v) = v := fun _ => rfl; have ef : ∀ f, a1.eval (.func f) = .func (.func f) #[] #[] := fun _ => rfl; have e0 : a1.eval (.tmp 16) = (⟨c.get 7, b.last⟩ : Bt).V := st.done 2 16 (hdep ⟨2, .data⟩ (by simp) rfl) rfl; have e1 : a1.eval (.tmp 20) = .agg #[.int .i64 (c.get 7), .int .i64 b.last] := st.done 6 20 (hdep ⟨6, .data⟩ (by simp) rfl) rfl; exact AnyOrder.step_value rfl (AnyOrder.wanted_none rfl) (.bool false) (run_neqBt_self (x := ⟨c.get 7, b.last⟩) e0 e1) st.inv (Below.refl _ _) rfl)
          | 8, ho => (injection ho with ho; subst ho; have ec : ∀ v, a1.eval (.const v) = v := fun _ => rfl; have ef : ∀ f, a1.eval (.func f) = .func (.func f) #[] #[] := fun _ => rfl; have e0 : a1.eval (.tmp 21) = .bool false := st.done 7 21 (hdep ⟨7, .data⟩ (by simp) rfl) rfl; exact AnyOrder.step_value rfl (AnyOrder.wanted_none rfl) (.bool false) (AnyOrder.run_move e0) st.inv (Below.refl _ _) rfl)
          | 9, ho => (injection ho with ho; subst ho; have ec : ∀ v, a1.eval (.const v) = v := fun _ => rfl; have ef : ∀ f, a1.eval (.func f) = .func (.func f) #[] #[] := fun _ => rfl; have e0 : a1.eval (.tmp 3) = ptr w.heap.size 0 := st.old hl 3 (by kernel_rfl); have eg : a1.eval (.tmp 22) = .bool false := st.done 8 22 (hdep ⟨8, .guard⟩ (by simp) rfl) rfl; exact AnyOrder.step_value rfl ((AnyOrder.wanted_of rfl rfl eg).trans rfl) (c.V) (run_load_cfg e0 (HS.out.cf.step st.inv)) st.inv (Below.refl _ _) rfl)
          | 10, ho => (injection ho with ho; subst ho; have ec : ∀ v, a1.eval (.const v) = v := fun _ => rfl; have ef : ∀ f, a1.eval (.func f) = .func (.func f) #[] #[] := fun _ => rfl; have e0 : a1.eval (.tmp 4) = ptr r 0 := st.old hl 4 (by kernel_rfl); have eg : a1.eval (.tmp 22) = .bool false := st.done 8 22 (hdep ⟨8, .guard⟩ (by simp) rfl) rfl; exact AnyOrder.step_value rfl ((AnyOrder.wanted_of rfl rfl eg).trans rfl) (b.V) (run_load_bt e0 (HS.out.bt.step st.inv)) st.inv (Below.refl _ _) rfl)
          | 11, ho => (injection ho with ho; subst ho; have ec : ∀ v, a1.eval (.const v) = v := fun _ => rfl; have ef : ∀ f, a1.eval (.func f) = .func (.func f) #[] #[] := fun _ => rfl; have e0 : a1.eval (.tmp 23) = c.V := st.done 9 23 (hdep ⟨9, .data⟩ (by simp) rfl) rfl; have e1 : a1.eval (.tmp 24) = b.V := st.done 10 24 (hdep ⟨10, .data⟩ (by simp) rfl) rfl; have eg : a1.eval (.tmp 22) = .bool false := st.done 8 22 (hdep ⟨8, .chain⟩ (by simp) rfl) rfl; exact AnyOrder.step_call rfl ((AnyOrder.wanted_of rfl rfl eg).trans rfl) 8 #[c.V, b.V] (by generalize a1.eval = ρ at ec ef e0 e1 ⊢; simp [execOp, ec, ef, e0, e1, go_sem]) ((CK.out _).mono (fun e w3 h => by obtain ⟨rfl, hb⟩ := h; exact ⟨_, rfl, st.inv.trans (hb.mono st.inv.size), hb, rfl⟩)))
          | 12, ho => (injection ho with ho; subst ho; have ec : ∀ v, a1.eval (.const v) = v := fun _ => rfl; have ef : ∀ f, a1.eval (.func f) = .func (.func f) #[] #[] := fun _ => rfl; have e0 : a1.eval (.tmp 3) = ptr w.heap.size 0 := st.old hl 3 (by kernel_rfl); have eg : a1.eval (.tmp 22) = .bool false := st.done 8 22 (hdep ⟨8, .guard⟩ (by simp) rfl) rfl; exact AnyOrder.step_value rfl ((AnyOrder.wanted_of rfl rfl eg).trans rfl) (c.V) (run_load_cfg e0 (HS.out.cf.step st.inv)) st.inv (Below.refl _ _) rfl)
          | 13, ho => (injection ho with ho; subst ho; have ec : ∀ v, a1.eval (.const v) = v := fun _ => rfl; have ef : ∀ f, a1.eval (.func f) = .func (.func f) #[] #[] := fun _ => rfl; have e0 : a1.eval (.tmp 4) = ptr r 0 := st.old hl 4 (by kernel_rfl); have eg : a1.eval (.tmp 22) = .bool false := st.done 8 22 (hdep ⟨8, .guard⟩ (by simp) rfl) rfl; exact AnyOrder.step_value rfl ((AnyOrder.wanted_of rfl rfl eg).trans rfl) (ptr r 0) (by generalize a1.eval = ρ at ec ef e0 ⊢; simp [execOp, ec, ef, e0, IntWalk.i64_left, go_sem]) st.inv (Below.refl _ _) rfl)
          | 14, ho => (injection ho with ho; subst ho; have ec : ∀ v, a1.eval (.const v) = v := fun _ => rfl; have ef : ∀ f, a1.eval (.func f) = .func (.func f) #[] #[] := fun _ => rfl; have e0 : a1.eval (.tmp 27) = ptr r 0 := st.done 13 27 (hdep ⟨13, .data⟩ (by simp) rfl) rfl; have eg : a1.eval (.tmp 22) = .bool false := st.done 8 22 (hdep ⟨8, .guard⟩ (by simp) rfl) rfl; exact AnyOrder.step_value rfl ((AnyOrder.wanted_of rfl rfl eg).trans rfl) (.int .i64 b.tok) (by generalize a1.eval = ρ at ec ef e0 ⊢; simp [execOp, ec, ef, e0, IntWalk.i64_left, (HS.out.bt.step st.inv).get0, go_sem]) st.inv (Below.refl _ _) rfl)
          | 15, ho => (injection ho with ho; subst ho; have ec : ∀ v, a1.eval (.const v) = v := fun _ => rfl; have ef : ∀ f, a1.eval (.func f) = .func (.func f) #[] #[] := fun _ => rfl; have e0 : a1.eval (.tmp 4) = ptr r 0 := st.old hl 4 (by kernel_rfl); have eg : a1.eval (.tmp 22) = .bool false := st.done 8 22 (hdep ⟨8, .guard⟩ (by simp) rfl) rfl; exact AnyOrder.step_value rfl ((AnyOrder.wanted_of rfl rfl eg).trans rfl) (ptr r 1) (by generalize a1.eval = ρ at ec ef e0 ⊢; simp [execOp, ec, ef, e0, IntWalk.i64_left, go_sem]) st.inv (Below.refl _ _) rfl)
          | 16, ho => (injection ho with ho; subst ho; have ec : ∀ v, a1.eval (.const v) = v := fun _ => rfl; have ef : ∀ f, a1.eval (.func f) = .func (.func f) #[] #[] := fun _ => rfl; have e0 : a1.eval (.tmp 29) = ptr r 1 := st.done 15 29 (hdep ⟨15, .data⟩ (by simp) rfl) rfl; have eg : a1.eval (.tmp 22) = .bool false := st.done 8 22 (hdep ⟨8, .guard⟩ (by simp) rfl) rfl; exact AnyOrder.step_value rfl ((AnyOrder.wanted_of rfl rfl eg).trans rfl) (.int .i64 b.last) (by generalize a1.eval = ρ at ec ef e0 ⊢; simp [execOp, ec, ef, e0, IntWalk.i64_left, (HS.out.bt.step st.inv).get1, go_sem]) st.inv (Below.refl _ _) rfl)
          | 17, ho => (injection ho with ho; subst ho; have ec : ∀ v, a1.eval (.const v) = v := fun _ => rfl; have ef : ∀ f, a1.eval (.func f) = .func (.func f) #[] #[] := fun _ => rfl; have e0 : a1.eval (.tmp 26) = c.V := st.done 12 26 (hdep ⟨12, .data⟩ (by simp) rfl) rfl; have e1 : a1.eval (.tmp 28) = .int .i64 b.tok := st.done 14 28 (hdep ⟨14, .data⟩ (by simp) rfl) rfl; have e2 : a1.eval (.tmp 30) = .int .i64 b.last := st.done 16 30 (hdep ⟨16, .data⟩ (by simp) rfl) rfl; have eg : a1.eval (.tmp 22) = .bool false := st.done 8 22 (hdep ⟨8, .guard⟩ (by simp) rfl) rfl; exact AnyOrder.step_call rfl ((AnyOrder.wanted_of rfl rfl eg).trans rfl) 9 #[c.V, .int .i64 b.tok, .int .i64 b.last, .int .i64 0] (by generalize a1.eval = ρ at ec ef e0 e1 e2 ⊢; simp [execOp, ec, ef, e0, e1, e2, go_sem]) ((CZ.out _).mono (fun e w3 h => by obtain ⟨rfl, hb⟩ := h; exact ⟨_, rfl, st.inv.trans (hb.mono st.inv.size), hb, rfl⟩)))
          | 18, ho => (injection ho with ho; subst ho; have ec : ∀ v, a1.eval (.const v) = v := fun _ => rfl; have ef : ∀ f, a1.eval (.func f) = .func (.func f) #[] #[] := fun _ => rfl; have e0 : a1.eval (.tmp 25) = .bool g := st.done 11 25 (hdep ⟨11, .data⟩ (by simp) rfl) rfl; have e1 : a1.eval (.tmp 31) = .bool g := st.done 17 31 (hdep ⟨17, .data⟩ (by simp) rfl) rfl; have eg : a1.eval (.tmp 22) = .bool false := st.done 8 22 (hdep ⟨8, .guard⟩ (by simp) rfl) rfl; exact AnyOrder.step_value rfl ((AnyOrder.wanted_of rfl rfl eg).trans rfl) (.bool false) (by generalize a1.eval = ρ at ec ef e0 e1 ⊢; simp [execOp, ec, ef, e0, e1, IntWalk.i64_left, go_sem]) st.inv (Below.refl _ _) rfl)
          | 19, ho => (injection ho with ho; subst ho; have ec : ∀ v, a1.eval (.const v) = v := fun _ => rfl; have ef : ∀ f, a1.eval (.func f) = .func (.func f) #[] #[] := fun _ => rfl; have e0 : a1.eval (.tmp 22) = .bool false := st.done 8 22 (hdep ⟨8, .data⟩ (by simp) rfl) rfl; have e1 : a1.eval (.tmp 32) = .bool false := st.done 18 32 (hdep ⟨18, .data⟩ (by simp) rfl) rfl; exact AnyOrder.step_value rfl (AnyOrder.wanted_none rfl) (.bool false) (by generalize a1.eval = ρ at ec ef e0 e1 ⊢; simp [execOp, ec, ef, e0, e1, IntWalk.i64_left, go_sem]) st.inv (Below.refl _ _) rfl)
          | n + 20, ho => exact absurd hin (by omega)
        · intro w2 hJ
          simp only [AnyOrder.finK, List.take_succ_cons, List.take_zero, List.drop_succ_cons, List.drop_zero, Act.put, List.setIfInBounds_toArray, List.set_cons_zero, List.set_cons_succ]
          replace HS := Lib.hid (HS.out.step hJ)
          clear hJ CN CK CZ
          have k0 := HS.out.bt.get0
          have k1 := HS.out.bt.get1
          go_wp2_with (first | ((with_reducible apply wpList_load_cat (h := HS.out.cf)); exact rfl; exact rfl; exact rfl) | ((with_reducible apply wpList_load_bt (h := HS.out.bt)); exact rfl; exact rfl; exact rfl))
          refine (CR.out _).mono ?_
          rintro e w3 ⟨rfl, hb⟩
          replace HS := Lib.hid (HS.out.step hb)
          clear hb CR
          go_wp2_with (first | ((with_reducible apply wpList_load_cat (h := HS.out.cf)); exact rfl; exact rfl; exact rfl) | ((with_reducible apply wpList_load_bt (h := HS.out.bt)); exact rfl; exact rfl; exact rfl))
          refine (CT.out _).mono ?_
          rintro e w4 ⟨rfl, hb⟩
          replace HS := Lib.hid (HS.out.step hb)
          clear hb CT
          go_upto_region 7 with (refine wpList_store_row rfl 26 _ _ rfl _ (⟨n - 1, b.last⟩ : Bt).cells rfl rfl 26 _ (heap_alloc_new _ _) (sizeBt _) rfl (Bt.one _) ?_; rw [World.setRow_alloc_new])
          have HD := Lib.hid (HS.out.new ⟨n - 1, b.last⟩).2
          replace HS := Lib.hid (HS.out.new ⟨n - 1, b.last⟩).1
          obtain ⟨V, hV⟩ : ∃ V, w4.alloc (.cells (Bt.cells ⟨n - 1, b.last⟩) 26) = V := ⟨_, rfl⟩
          rw [hV] at HD HS ⊢; clear hV
          generalize w4.heap.size = s at *
          go_upto_region 8 with (first | ((with_reducible apply wpList_load_bt (h := HS.out.bt)); exact rfl; exact rfl; exact rfl) | (refine wpList_store_row rfl 26 _ _ rfl _ (b : Bt).cells rfl rfl 26 _ (heap_alloc_new _ _) (sizeBt _) rfl (Bt.one _) ?_; rw [World.setRow_alloc_new]))
          replace HS := Lib.hid (HS.out.ex HD.out b)
          clear HD
          obtain ⟨V1, hV⟩ : ∃ V1, V.alloc (.cells (Bt.cells b) 26) = V1 := ⟨_, rfl⟩
          rw [hV] at HS ⊢; clear hV
          generalize V.heap.size = u at *
          have k1 := HS.out.bt.get1
          go_upto_region 10 with ((with_reducible apply wpList_store_bt (c := ⟨n - 1, b.last⟩) (hq := HS.out.wt)); exact rfl; exact rfl; exact rfl; exact rfl)
          replace HS := Lib.hid (HS.out.put ⟨n - 1, b.last⟩)
          obtain ⟨V2, hV⟩ : ∃ V2, V1.setRow u (Bt.cells ⟨n - 1, b.last⟩) = V2 := ⟨_, rfl⟩
          rw [hV] at HS ⊢; clear hV
          have k0 := HS.out.bt.get0
          have k1 := HS.out.bt.get1
          go_wp2_with (first | ((with_reducible apply wpList_load_cat (h := HS.out.cf)); exact rfl; exact rfl; exact rfl) | ((with_reducible apply wpList_load_bt (h := HS.out.bt)); exact rfl; exact rfl; exact rfl))
          refine (CG.out _).mono ?_
          rintro e w5 ⟨rfl, hb⟩
          replace HS := Lib.hid (HS.out.step hb)
          clear hb CG
          have k0 := HS.out.bt.get0
          have k1 := HS.out.bt.get1
          go_wp2_with (first | ((with_reducible apply wpList_load_cat (h := HS.out.cf)); exact rfl; exact rfl; exact rfl) | ((with_reducible apply wpList_load_bt (h := HS.out.bt)); exact rfl; exact rfl; exact rfl))
          refine (CL.out _).mono ?_
          rintro e w6 ⟨rfl, hb⟩
          replace HS := Lib.hid (HS.out.step hb)
          clear hb CL
          go_wp2_with (first | ((with_reducible apply wpList_load_bt (h := HS.out.dt)); exact rfl; exact rfl; exact rfl) | ((with_reducible apply wpList_load_bt (h := HS.out.wt)); exact rfl; exact rfl; exact rfl) | ((with_reducible apply wpList_load_cat (h := HS.out.cf)); exact rfl; exact rfl; exact rfl) | ((with_reducible apply wpList_load_bt (h := HS.out.bt)); exact rfl; exact rfl; exact rfl) | ((with_reducible apply wpList_eql_bt (c := ⟨n - 1, b.last⟩) (d := ⟨n - 1, b.last⟩) (b := true)); exact rfl; exact rfl; exact rfl; exact rfl; exact Bt.beq_self _))
          refine (CU.out _).mono ?_
          rintro e w7 ⟨rfl, hb⟩
          replace HS := Lib.hid (HS.out.step hb)
          clear hb CU
          go_wp2_with fail
          go_ret
          exact ⟨rfl, HS.out.bel⟩
      · rw [show max now b.last = now by omega] at CT
        have hl2 : ¬ now < b.last := by omega
        have hl3 : ¬ now ≤ b.last := by omega
        generalize okB c b.tok b.last = g at *
        generalize lev c b.tok b.last now = n at *
        clear hg
        go_enter Try.func3, Try.ntmps3
        go_upto_region 1 with fail
        obtain ⟨W, hW⟩ : ∃ W, (w.alloc (.cells c.cells 24)).alloc (.cells b.cells 26) = W := ⟨_, rfl⟩
        rw [hW] at H ⊢; clear hW
        have HS : Hid (CB w W w.heap.size (w.heap.size + 1) c b) := Lib.hid ⟨H.out.2.1, H.out.2.2, HL.out, H.out.1⟩
        clear H HL
        generalize w.heap.size + 1 = r at *
        go_wp2_with fail
        refine (awake_any _).mono ?_
        rintro e w1 ⟨rfl, hb⟩
        replace HS := Lib.hid (HS.out.step hb)
        clear hb
        go_upto_region 3 with fail
        refine AnyOrder.region_kinds2 20 [.eq (c.V), .eq (.int .i64 now), .eq ((⟨c.get 7, now⟩ : Bt).V), .eq (ptr w.heap.size 7), .eq (.int .i64 (c.get 7)), .eq (.int .i64 now), .eq (.agg #[.int .i64 (c.get 7), .int .i64 now]), .eq (.bool false), .eq (.bool false), .eq (c.V), .eq (b.V), .eq (.bool g), .eq (c.V), .eq (ptr r 0), .eq (.int .i64 b.tok), .eq (ptr r 1), .eq (.int .i64 b.last), .eq (.bool g), .eq (.bool false), .eq (.bool false)] (fun wx => Below w1.heap.size w1 wx) (by kernel_rfl) (by kernel_rfl) rfl (by kernel_rfl) (below_drewN (Below.refl _ _) 1) (fun p _ _ hp => by simp at hp) ?_ ?_
        · intro i o listed a1 w2 hin ho st hl hdep
          match i, ho with
          | 0, ho => (injection ho with ho; subst ho; have ec : ∀ v, a1.eval (.const v) = v := fun _ => rfl; have ef : ∀ f, a1.eval (.func f) = .func (.func f) #[] #[] := fun _ => rfl; have e0 : a1.eval (.tmp 3) = ptr w.heap.size 0 := st.old hl 3 (by kernel_rfl); exact AnyOrder.step_value rfl (AnyOrder.wanted_none rfl) (c.V) (run_load_cfg e0 (HS.out.cf.step st.inv)) st.inv (Below.refl _ _) rfl)
          | 1, ho => (injection ho with ho; subst ho; have ec : ∀ v, a1.eval (.const v) = v := fun _ => rfl; have ef : ∀ f, a1.eval (.func f) = .func (.func f) #[] #[] := fun _ => rfl; have e0 : a1.eval (.tmp 2) = .int .i64 now := st.old hl 2 (by kernel_rfl); exact AnyOrder.step_value rfl (AnyOrder.wanted_none rfl) (.int .i64 now) (AnyOrder.run_move e0) st.inv (Below.refl _ _) rfl)
          | 2, ho => (injection ho with ho; subst ho; have ec : ∀ v, a1.eval (.const v) = v := fun _ => rfl; have ef : ∀ f, a1.eval (.func f) = .func (.func f) #[] #[] := fun _ => rfl; have e0 : a1.eval (.tmp 14) = c.V := st.done 0 14 (hdep ⟨0, .data⟩ (by simp) rfl) rfl; have e1 : a1.eval (.tmp 15) = .int .i64 now := st.done 1 15 (hdep ⟨1, .data⟩ (by simp) rfl) rfl; exact AnyOrder.step_call rfl (AnyOrder.wanted_none rfl) 7 #[c.V, .int .i64 now] (by generalize a1.eval = ρ at ec ef e0 e1 ⊢; simp [execOp, ec, ef, e0, e1, go_sem]) ((CN.out _).mono (fun e w3 h => by obtain ⟨rfl, hb⟩ := h; exact ⟨_, rfl, st.inv.trans (hb.mono st.inv.size), hb, rfl⟩)))
          | 3, ho => (injection ho with ho; subst ho; have ec : ∀ v, a1.eval (.const v) = v := fun _ => rfl; have ef : ∀ f, a1.eval (.func f) = .func (.func f) #[] #[] := fun _ => rfl; have e0 : a1.eval (.tmp 3) = ptr w.heap.size 0 := st.old hl 3 (by kernel_rfl); exact AnyOrder.step_value rfl (AnyOrder.wanted_none rfl) (ptr w.heap.size 7) (by generalize a1.eval = ρ at ec ef e0 ⊢; simp [execOp, ec, ef, e0, IntWalk.i64_left, go_sem]) st.inv (Below.refl _ _) rfl)
          | 4, ho => (injection ho with ho; subst ho; have ec : ∀ v, a1.eval (.const v) = v := fun _ => rfl; have ef : ∀ f, a1.eval (.func f) = .func (.func f) #[] #[] := fun _ => rfl; have e0 : a1.eval (.tmp 17) = ptr w.heap.size 7 := st.done 3 17 (hdep ⟨3, .data⟩ (by simp) rfl) rfl; exact AnyOrder.step_value rfl (AnyOrder.wanted_none rfl) (.int .i64 (c.get 7)) (by generalize a1.eval = ρ at ec ef e0 ⊢; simp [execOp, ec, ef, e0, IntWalk.i64_left, ((HS.out.cf.step st.inv).get (k := 7) (by omega)), go_sem]) st.inv (Below.refl _ _) rfl)
          | 5, ho => (injection ho with ho; subst ho; have ec : ∀ v, a1.eval (.const v) = v := fun _ => rfl; have ef : ∀ f, a1.eval (.func f) = .func (.func f) #[] #[] := fun _ => rfl; have e0 : a1.eval (.tmp 2) = .int .i64 now := st.old hl 2 (by kernel_rfl); exact AnyOrder.step_value rfl (AnyOrder.wanted_none rfl) (.int .i64 now) (AnyOrder.run_move e0) st.inv (Below.refl _ _) rfl)
          | 6, ho => (injection ho with ho; subst ho; have ec : ∀ v, a1.eval (.const v) = v := fun _ => rfl; have ef : ∀ f, a1.eval (.func f) = .func (.func f) #[] #[] := fun _ => rfl; have e0 : a1.eval (.tmp 18) = .int .i64 (c.get 7) := st.done 4 18 (hdep ⟨4, .data⟩ (by simp) rfl) rfl; have e1 : a1.eval (.tmp 19) = .int .i64 now := st.done 5 19 (hdep ⟨5, .data⟩ (by simp) rfl) rfl; exact AnyOrder.step_value rfl (AnyOrder.wanted_none rfl) (.agg #[.int .i64 (c.get 7), .int .i64 now]) (by generalize a1.eval = ρ at ec ef e0 e1 ⊢; simp [execOp, ec, ef, e0, e1, IntWalk.i64_left, go_sem]) st.inv (Below.refl _ _) rfl)
          | 7, ho => (injection ho with ho; subst ho; have ec : ∀ v, a1.eval (.const v) = v := fun _ => rfl; have ef : ∀ f, a1.eval (.func f) = .func (.func f) #[] #[] := fun _ => rfl; have e0 : a1.eval (.tmp 16) = (⟨c.get 7, now⟩ : Bt).V := st.done 2 16 (hdep ⟨2, .data⟩ (by simp) rfl) rfl; have e1 : a1.eval (.tmp 20) = .agg #[.int .i64 (c.get 7), .int .i64 now] := st.done 6 20 (hdep ⟨6, .data⟩ (by simp) rfl) rfl; exact AnyOrder.step_value rfl (AnyOrder.wanted_none rfl) (.bool false) (run_neqBt_self (x := ⟨c.get 7, now⟩) e0 e1) st.inv (Below.refl _ _) rfl)
          | 8, ho => (injection ho with ho; subst ho; have ec : ∀ v, a1.eval (.const v) = v := fun _ => rfl; have ef : ∀ f, a1.eval (.func f) = .func (.func f) #[] #[] := fun _ => rfl; have e0 : a1.eval (.tmp 21) = .bool false := st.done 7 21 (hdep ⟨7, .data⟩ (by simp) rfl) rfl; exact AnyOrder.step_value rfl (AnyOrder.wanted_none rfl) (.bool false) (AnyOrder.run_move e0) st.inv (Below.refl _ _) rfl)
          | 9, ho => (injection ho with ho; subst ho; have ec : ∀ v, a1.eval (.const v) = v := fun _ => rfl; have ef : ∀ f, a1.eval (.func f) = .func (.func f) #[] #[] := fun _ => rfl; have e0 : a1.eval (.tmp 3) = ptr w.heap.size 0 := st.old hl 3 (by kernel_rfl); have eg : a1.eval (.tmp 22) = .bool false := st.done 8 22 (hdep ⟨8, .guard⟩ (by simp) rfl) rfl; exact AnyOrder.step_value rfl ((AnyOrder.wanted_of rfl rfl eg).trans rfl) (c.V) (run_load_cfg e0 (HS.out.cf.step st.inv)) st.inv (Below.refl _ _) rfl)
          | 10, ho => (injection ho with ho; subst ho; have ec : ∀ v, a1.eval (.const v) = v := fun _ => rfl; have ef : ∀ f, a1.eval (.func f) = .func (.func f) #[] #[] := fun _ => rfl; have e0 : a1.eval (.tmp 4) = ptr r 0 := st.old hl 4 (by kernel_rfl); have eg : a1.eval (.tmp 22) = .bool false := st.done 8 22 (hdep ⟨8, .guard⟩ (by simp) rfl) rfl; exact AnyOrder.step_value rfl ((AnyOrder.wanted_of rfl rfl eg).trans rfl) (b.V) (run_load_bt e0 (HS.out.bt.step st.inv)) st.inv (Below.refl _ _) rfl)
          | 11, ho => (injection ho with ho; subst ho; have ec : ∀ v, a1.eval (.const v) = v := fun _ => rfl; have ef : ∀ f, a1.eval (.func f) = .func (.func f) #[] #[] := fun _ => rfl; have e0 : a1.eval (.tmp 23) = c.V := st.done 9 23 (hdep ⟨9, .data⟩ (by simp) rfl) rfl; have e1 : a1.eval (.tmp 24) = b.V := st.done 10 24 (hdep ⟨10, .data⟩ (by simp) rfl) rfl; have eg : a1.eval (.tmp 22) = .bool false := st.done 8 22 (hdep ⟨8, .chain⟩ (by simp) rfl) rfl; exact AnyOrder.step_call rfl ((AnyOrder.wanted_of rfl rfl eg).trans rfl) 8 #[c.V, b.V] (by generalize a1.eval = ρ at ec ef e0 e1 ⊢; simp [execOp, ec, ef, e0, e1, go_sem]) ((CK.out _).mono (fun e w3 h => by obtain ⟨rfl, hb⟩ := h; exact ⟨_, rfl, st.inv.trans (hb.mono st.inv.size), hb, rfl⟩)))
          | 12, ho => (injection ho with ho; subst ho; have ec : ∀ v, a1.eval (.const v) = v := fun _ => rfl; have ef : ∀ f, a1.eval (.func f) = .func (.func f) #[] #[] := fun _ => rfl; have e0 : a1.eval (.tmp 3) = ptr w.heap.size 0 := st.old hl 3 (by kernel_rfl); have eg : a1.eval (.tmp 22) = .bool false := st.done 8 22 (hdep ⟨8, .guard⟩ (by simp) rfl) rfl; exact AnyOrder.step_value rfl ((AnyOrder.wanted_of rfl rfl eg).trans rfl) (c.V) (run_load_cfg e0 (HS.out.cf.step st.inv)) st.inv (Below.refl _ _) rfl)
          | 13, ho => (injection ho with ho; subst ho; have ec : ∀ v, a1.eval (.const v) = v := fun _ => rfl; have ef : ∀ f, a1.eval (.func f) = .func (.func f) #[] #[] := fun _ => rfl; have e0 : a1.eval (.tmp 4) = ptr r 0 := st.old hl 4 (by kernel_rfl); have eg : a1.eval (.tmp 22) = .bool false := st.done 8 22 (hdep ⟨8, .guard⟩ (by simp) rfl) rfl; exact AnyOrder.step_value rfl ((AnyOrder.wanted_of rfl rfl eg).trans rfl) (ptr r 0) (by generalize a1.eval = ρ at ec ef e0 ⊢; simp [execOp, ec, ef, e0, IntWalk.i64_left, go_sem]) st.inv (Below.refl _ _) rfl)
          | 14, ho => (injection ho with ho; subst ho; have ec : ∀ v, a1.eval (.const v) = v := fun _ => rfl; have ef : ∀ f, a1.eval (.func f) = .func (.func f) #[] #[] := fun _ => rfl; have e0 : a1.eval (.tmp 27) = ptr r 0 := st.done 13 27 (hdep ⟨13, .data⟩ (by simp) rfl) rfl; have eg : a1.eval (.tmp 22) = .bool false := st.done 8 22 (hdep ⟨8, .guard⟩ (by simp) rfl) rfl; exact AnyOrder.step_value rfl ((AnyOrder.wanted_of rfl rfl eg).trans rfl) (.int .i64 b.tok) (by generalize a1.eval = ρ at ec ef e0 ⊢; simp [execOp, ec, ef, e0, IntWalk.i64_left, (HS.out.bt.step st.inv).get0, go_sem]) st.inv (Below.refl _ _) rfl)
          | 15, ho => (injection ho with ho; subst ho; have ec : ∀ v, a1.eval (.const v) = v := fun _ => rfl; have ef : ∀ f, a1.eval (.func f) = .func (.func f) #[] #[] := fun _ => rfl; have e0 : a1.eval (.tmp 4) = ptr r 0 := st.old hl 4 (by kernel_rfl); have eg : a1.eval (.tmp 22) = .bool false := st.done 8 22 (hdep ⟨8, .guard⟩ (by simp) rfl) rfl; exact AnyOrder.step_value rfl ((AnyOrder.wanted_of rfl rfl eg).trans rfl) (ptr r 1) (by generalize a1.eval = ρ at ec ef e0 ⊢; simp [execOp, ec, ef, e0, IntWalk.i64_left, go_sem]) st.inv (Below.refl _ _) rfl)
          | 16, ho => (injection ho with ho; subst ho; have ec : ∀ v, a1.eval (.const v) = v := fun _ => rfl; have ef : ∀ f, a1.eval (.func f) = .func (.func f) #[] #[] := fun _ => rfl; have e0 : a1.eval (.tmp 29) = ptr r 1 := st.done 15 29 (hdep ⟨15, .data⟩ (by simp) rfl) rfl; have eg : a1.eval (.tmp 22) = .bool false := st.done 8 22 (hdep ⟨8, .guard⟩ (by simp) rfl) rfl; exact AnyOrder.step_value rfl ((AnyOrder.wanted_of rfl rfl eg).trans rfl) (.int .i64 b.last) (by generalize a1.eval = ρ at ec ef e0 ⊢; simp [execOp, ec, ef, e0, IntWalk.i64_left, (HS.out.bt.step st.inv).get1, go_sem]) st.inv (Below.refl _ _) rfl)
          | 17, ho => (injection ho with ho; subst ho; have ec : ∀ v, a1.eval (.const v) = v := fun _ => rfl; have ef : ∀ f, a1.eval (.func f) = .func (.func f) #[] #[] := fun _ => rfl; have e0 : a1.eval (.tmp 26) = c.V := st.done 12 26 (hdep ⟨12, .data⟩ (by simp) rfl) rfl; have e1 : a1.eval (.tmp 28) = .int .i64 b.tok := st.done 14 28 (hdep ⟨14, .data⟩ (by simp) rfl) rfl; have e2 : a1.eval (.tmp 30) = .int .i64 b.last := st.done 16 30 (hdep ⟨16, .data⟩ (by simp) rfl) rfl; have eg : a1.eval (.tmp 22) = .bool false := st.done 8 22 (hdep ⟨8, .guard⟩ (by simp) rfl) rfl; exact AnyOrder.step_call rfl ((AnyOrder.wanted_of rfl rfl eg).trans rfl) 9 #[c.V, .int .i64 b.tok, .int .i64 b.last, .int .i64 0] (by generalize a1.eval = ρ at ec ef e0 e1 e2 ⊢; simp [execOp, ec, ef, e0, e1, e2, go_sem]) ((CZ.out _).mono (fun e w3 h => by obtain ⟨rfl, hb⟩ := h; exact ⟨_, rfl, st.inv.trans (hb.mono st.inv.size), hb, rfl⟩)))
          | 18, ho => (injection ho with ho; subst ho; have ec : ∀ v, a1.eval (.const v) = v := fun _ => rfl; have ef : ∀ f, a1.eval (.func f) = .func (.func f) #[] #[] := fun _ => rfl; have e0 : a1.eval (.tmp 25) = .bool g := st.done 11 25 (hdep ⟨11, .data⟩ (by simp) rfl) rfl; have e1 : a1.eval (.tmp 31) = .bool g := st.done 17 31 (hdep ⟨17, .data⟩ (by simp) rfl) rfl; have eg : a1.eval (.tmp 22) = .bool false := st.done 8 22 (hdep ⟨8, .guard⟩ (by simp) rfl) rfl; exact AnyOrder.step_value rfl ((AnyOrder.wanted_of rfl rfl eg).trans rfl) (.bool false) (by generalize a1.eval = ρ at ec ef e0 e1 ⊢; simp [execOp, ec, ef, e0, e1, IntWalk.i64_left, go_sem]) st.inv (Below.refl _ _) rfl)
          | 19, ho => (injection ho with ho; subst ho; have ec : ∀ v, a1.eval (.const v) = v := fun _ => rfl; have ef : ∀ f, a1.eval (.func f) = .func (.func f) #[] #[] := fun _ => rfl; have e0 : a1.eval (.tmp 22) = .bool false := st.done 8 22 (hdep ⟨8, .data⟩ (by simp) rfl) rfl; have e1 : a1.eval (.tmp 32) = .bool false := st.done 18 32 (hdep ⟨18, .data⟩ (by simp) rfl) rfl; exact AnyOrder.step_value rfl (AnyOrder.wanted_none rfl) (.bool false) (by generalize a1.eval = ρ at ec ef e0 e1 ⊢; simp [execOp, ec, ef, e0, e1, IntWalk.i64_left, go_sem]) st.inv (Below.refl _ _) rfl)
          | n + 20, ho => exact absurd hin (by omega)
        · intro w2 hJ
          simp only [AnyOrder.finK, List.take_succ_cons, List.take_zero, List.drop_succ_cons, List.drop_zero, Act.put, List.setIfInBounds_toArray, List.set_cons_zero, List.set_cons_succ]
          replace HS := Lib.hid (HS.out.step hJ)
          clear hJ CN CK CZ
          have k0 := HS.out.bt.get0
          have k1 := HS.out.bt.get1
          go_wp2_with (first | ((with_reducible apply wpList_load_cat (h := HS.out.cf)); exact rfl; exact rfl; exact rfl) | ((with_reducible apply wpList_load_bt (h := HS.out.bt)); exact rfl; exact rfl; exact rfl))
          refine (CR.out _).mono ?_
          rintro e w3 ⟨rfl, hb⟩
          replace HS := Lib.hid (HS.out.step hb)
          clear hb CR
          go_wp2_with (first | ((with_reducible apply wpList_load_cat (h := HS.out.cf)); exact rfl; exact rfl; exact rfl) | ((with_reducible apply wpList_load_bt (h := HS.out.bt)); exact rfl; exact rfl; exact rfl))
          refine (CT.out _).mono ?_
          rintro e w4 ⟨rfl, hb⟩
          replace HS := Lib.hid (HS.out.step hb)
          clear hb CT
          go_upto_region 7 with (refine wpList_store_row rfl 26 _ _ rfl _ (⟨n - 1, now⟩ : Bt).cells rfl rfl 26 _ (heap_alloc_new _ _) (sizeBt _) rfl (Bt.one _) ?_; rw [World.setRow_alloc_new])
          have HD := Lib.hid (HS.out.new ⟨n - 1, now⟩).2
          replace HS := Lib.hid (HS.out.new ⟨n - 1, now⟩).1
          obtain ⟨V, hV⟩ : ∃ V, w4.alloc (.cells (Bt.cells ⟨n - 1, now⟩) 26) = V := ⟨_, rfl⟩
          rw [hV] at HD HS ⊢; clear hV
          generalize w4.heap.size = s at *
          go_upto_region 8 with (first | ((with_reducible apply wpList_load_bt (h := HS.out.bt)); exact rfl; exact rfl; exact rfl) | (refine wpList_store_row rfl 26 _ _ rfl _ (b : Bt).cells rfl rfl 26 _ (heap_alloc_new _ _) (sizeBt _) rfl (Bt.one _) ?_; rw [World.setRow_alloc_new]))
          replace HS := Lib.hid (HS.out.ex HD.out b)
          clear HD
          obtain ⟨V1, hV⟩ : ∃ V1, V.alloc (.cells (Bt.cells b) 26) = V1 := ⟨_, rfl⟩
          rw [hV] at HS ⊢; clear hV
          generalize V.heap.size = u at *
          have k1 := HS.out.bt.get1
          go_upto_region 10 with ((with_reducible apply wpList_store_bt (c := ⟨n - 1, now⟩) (hq := HS.out.wt)); exact rfl; exact rfl; exact rfl; exact rfl)
          replace HS := Lib.hid (HS.out.put ⟨n - 1, now⟩)
          obtain ⟨V2, hV⟩ : ∃ V2, V1.setRow u (Bt.cells ⟨n - 1, now⟩) = V2 := ⟨_, rfl⟩
          rw [hV] at HS ⊢; clear hV
          have k0 := HS.out.bt.get0
          have k1 := HS.out.bt.get1
          go_wp2_with (first | ((with_reducible apply wpList_load_cat (h := HS.out.cf)); exact rfl; exact rfl; exact rfl) | ((with_reducible apply wpList_load_bt (h := HS.out.bt)); exact rfl; exact rfl; exact rfl))
          refine (CG.out _).mono ?_
          rintro e w5 ⟨rfl, hb⟩
          replace HS := Lib.hid (HS.out.step hb)
          clear hb CG
          have k0 := HS.out.bt.get0
          have k1 := HS.out.bt.get1
          go_wp2_with (first | ((with_reducible apply wpList_load_cat (h := HS.out.cf)); exact rfl; exact rfl; exact rfl) | ((with_reducible apply wpList_load_bt (h := HS.out.bt)); exact rfl; exact rfl; exact rfl))
          refine (CL.out _).mono ?_
          rintro e w6 ⟨rfl, hb⟩
          replace HS := Lib.hid (HS.out.step hb)
          clear hb CL
          go_wp2_with (first | ((with_reducible apply wpList_load_bt (h := HS.out.dt)); exact rfl; exact rfl; exact rfl) | ((with_reducible apply wpList_load_bt (h := HS.out.wt)); exact rfl; exact rfl; exact rfl) | ((with_reducible apply wpList_load_cat (h := HS.out.cf)); exact rfl; exact rfl; exact rfl) | ((with_reducible apply wpList_load_bt (h := HS.out.bt)); exact rfl; exact rfl; exact rfl) | ((with_reducible apply wpList_eql_bt (c := ⟨n - 1, now⟩) (d := ⟨n - 1, now⟩) (b := true)); exact rfl; exact rfl; exact rfl; exact rfl; exact Bt.beq_self _))
          refine (CU.out _).mono ?_
          rintro e w7 ⟨rfl, hb⟩
          replace HS := Lib.hid (HS.out.step hb)
          clear hb CU
          go_wp2_with fail
          go_ret
          exact ⟨rfl, HS.out.bel⟩
    · have hin := lev_in c b.tok b.last now
      have hx : lev c b.tok b.last now = 0 := by omega
      have htk : tkn c b now = b := if_neg h0
      have hun : unt c b now = b.last - now + 1 := by unfold unt; rw [hg, if_neg h0]; rfl
      have hk := (Bool.and_eq_true _ _ ▸ hg : okB c b.tok b.last = true ∧ tick now = true).1
      have ht := (Bool.and_eq_true _ _ ▸ hg : okB c b.tok b.last = true ∧ tick now = true).2
      have ht1 := tick_iff.1 ht
      have ht2 := tick_iff.1 (okB_iff.1 hk).2.2.2
      have hz : now ≤ b.last := by
        have hr := rate_in (okB_iff.1 hk).1
        have hB := burst_in (okB_iff.1 hk).1
        rw [lev_ok hk ht] at hx
        exact ((lv_zero hr.1 hB.1 (okB_iff.1 hk).2.1).1 hx).2
      rw [htk, decide_eq_false h0] at CT
      rw [hx] at CR CL
      rw [hun] at CU
      rw [hg] at CG
      have x1 : IntKind.i64.wrap (b.last - now) = b.last - now := i64w (by omega) (by omega)
      have x2 : IntKind.i64.wrap (b.last - now + 1) = b.last - now + 1 := i64w (by omega) (by omega)
      clear hin hx h0 htk hun hk ht ht1 ht2
      by_cases hl : b.last > now
      · have d1 : decide (b.last > now) = true := decide_eq_true hl
        clear hl hz hg
        generalize okB c b.tok b.last = g at *
        go_enter Try.func3, Try.ntmps3
        go_upto_region 1 with fail
        obtain ⟨W, hW⟩ : ∃ W, (w.alloc (.cells c.cells 24)).alloc (.cells b.cells 26) = W := ⟨_, rfl⟩
        rw [hW] at H ⊢; clear hW
        have HS : Hid (CB w W w.heap.size (w.heap.size + 1) c b) := Lib.hid ⟨H.out.2.1, H.out.2.2, HL.out, H.out.1⟩
        clear H HL
        generalize w.heap.size + 1 = r at *
        go_wp2_with fail
        refine (awake_any _).mono ?_
        rintro e w1 ⟨rfl, hb⟩
        replace HS := Lib.hid (HS.out.step hb)
        clear hb
        go_upto_region 3 with fail
        refine AnyOrder.region_kinds2 20 [.eq (c.V), .eq (.int .i64 now), .eq ((⟨c.get 7, now⟩ : Bt).V), .eq (ptr w.heap.size 7), .eq (.int .i64 (c.get 7)), .eq (.int .i64 now), .eq (.agg #[.int .i64 (c.get 7), .int .i64 now]), .eq (.bool false), .eq (.bool false), .eq (c.V), .eq (b.V), .eq (.bool g), .eq (c.V), .eq (ptr r 0), .eq (.int .i64 b.tok), .eq (ptr r 1), .eq (.int .i64 b.last), .eq (.bool g), .eq (.bool false), .eq (.bool false)] (fun wx => Below w1.heap.size w1 wx) (by kernel_rfl) (by kernel_rfl) rfl (by kernel_rfl) (below_drewN (Below.refl _ _) 1) (fun p _ _ hp => by simp at hp) ?_ ?_
        · intro i o listed a1 w2 hin ho st hl hdep
          match i, ho with
          | 0, ho => (injection ho with ho; subst ho; have ec : ∀ v, a1.eval (.const v) = v := fun _ => rfl; have ef : ∀ f, a1.eval (.func f) = .func (.func f) #[] #[] := fun _ => rfl; have e0 : a1.eval (.tmp 3) = ptr w.heap.size 0 := st.old hl 3 (by kernel_rfl); exact AnyOrder.step_value rfl (AnyOrder.wanted_none rfl) (c.V) (run_load_cfg e0 (HS.out.cf.step st.inv)) st.inv (Below.refl _ _) rfl)
          | 1, ho => (injection ho with ho; subst ho; have ec : ∀ v, a1.eval (.const v) = v := fun _ => rfl; have ef : ∀ f, a1.eval (.func f) = .func (.func f) #[] #[] := fun _ => rfl; have e0 : a1.eval (.tmp 2) = .int .i64 now := st.old hl 2 (by kernel_rfl); exact AnyOrder.step_value rfl (AnyOrder.wanted_none rfl) (.int .i64 now) (AnyOrder.run_move e0) st.inv (Below.refl _ _) rfl)
          | 2, ho => (injection ho with ho; subst ho; have ec : ∀ v, a1.eval (.const v) = v := fun _ => rfl; have ef : ∀ f, a1.eval (.func f) = .func (.func f) #[] #[] := fun _ => rfl; have e0 : a1.eval (.tmp 14) = c.V := st.done 0 14 (hdep ⟨0, .data⟩ (by simp) rfl) rfl; have e1 : a1.eval (.tmp 15) = .int .i64 now := st.done 1 15 (hdep ⟨1, .data⟩ (by simp) rfl) rfl; exact AnyOrder.step_call rfl (AnyOrder.wanted_none rfl) 7 #[c.V, .int .i64 now] (by generalize a1.eval = ρ at ec ef e0 e1 ⊢; simp [execOp, ec, ef, e0, e1, go_sem]) ((CN.out _).mono (fun e w3 h => by obtain ⟨rfl, hb⟩ := h; exact ⟨_, rfl, st.inv.trans (hb.mono st.inv.size), hb, rfl⟩)))
          | 3, ho => (injection ho with ho; subst ho; have ec : ∀ v, a1.eval (.const v) = v := fun _ => rfl; have ef : ∀ f, a1.eval (.func f) = .func (.func f) #[] #[] := fun _ => rfl; have e0 : a1.eval (.tmp 3) = ptr w.heap.size 0 := st.old hl 3 (by kernel_rfl); exact AnyOrder.step_value rfl (AnyOrder.wanted_none rfl) (ptr w.heap.size 7) (by generalize a1.eval = ρ at ec ef e0 ⊢; simp [execOp, ec, ef, e0, IntWalk.i64_left, go_sem]) st.inv (Below.refl _ _) rfl)
          | 4, ho => (injection ho with ho; subst ho; have ec : ∀ v, a1.eval (.const v) = v := fun _ => rfl; have ef : ∀ f, a1.eval (.func f) = .func (.func f) #[] #[] := fun _ => rfl; have e0 : a1.eval (.tmp 17) = ptr w.heap.size 7 := st.done 3 17 (hdep ⟨3, .data⟩ (by simp) rfl) rfl; exact AnyOrder.step_value rfl (AnyOrder.wanted_none rfl) (.int .i64 (c.get 7)) (by generalize a1.eval = ρ at ec ef e0 ⊢; simp [execOp, ec, ef, e0, IntWalk.i64_left, ((HS.out.cf.step st.inv).get (k := 7) (by omega)), go_sem]) st.inv (Below.refl _ _) rfl)
          | 5, ho => (injection ho with ho; subst ho; have ec : ∀ v, a1.eval (.const v) = v := fun _ => rfl; have ef : ∀ f, a1.eval (.func f) = .func (.func f) #[] #[] := fun _ => rfl; have e0 : a1.eval (.tmp 2) = .int .i64 now := st.old hl 2 (by kernel_rfl); exact AnyOrder.step_value rfl (AnyOrder.wanted_none rfl) (.int .i64 now) (AnyOrder.run_move e0) st.inv (Below.refl _ _) rfl)
          | 6, ho => (injection ho with ho; subst ho; have ec : ∀ v, a1.eval (.const v) = v := fun _ => rfl; have ef : ∀ f, a1.eval (.func f) = .func (.func f) #[] #[] := fun _ => rfl; have e0 : a1.eval (.tmp 18) = .int .i64 (c.get 7) := st.done 4 18 (hdep ⟨4, .data⟩ (by simp) rfl) rfl; have e1 : a1.eval (.tmp 19) = .int .i64 now := st.done 5 19 (hdep ⟨5, .data⟩ (by simp) rfl) rfl; exact AnyOrder.step_value rfl (AnyOrder.wanted_none rfl) (.agg #[.int .i64 (c.get 7), .int .i64 now]) (by generalize a1.eval = ρ at ec ef e0 e1 ⊢; simp [execOp, ec, ef, e0, e1, IntWalk.i64_left, go_sem]) st.inv (Below.refl _ _) rfl)
          | 7, ho => (injection ho with ho; subst ho; have ec : ∀ v, a1.eval (.const v) = v := fun _ => rfl; have ef : ∀ f, a1.eval (.func f) = .func (.func f) #[] #[] := fun _ => rfl; have e0 : a1.eval (.tmp 16) = (⟨c.get 7, now⟩ : Bt).V := st.done 2 16 (hdep ⟨2, .data⟩ (by simp) rfl) rfl; have e1 : a1.eval (.tmp 20) = .agg #[.int .i64 (c.get 7), .int .i64 now] := st.done 6 20 (hdep ⟨6, .data⟩ (by simp) rfl) rfl; exact AnyOrder.step_value rfl (AnyOrder.wanted_none rfl) (.bool false) (run_neqBt_self (x := ⟨c.get 7, now⟩) e0 e1) st.inv (Below.refl _ _) rfl)
          | 8, ho => (injection ho with ho; subst ho; have ec : ∀ v, a1.eval (.const v) = v := fun _ => rfl; have ef : ∀ f, a1.eval (.func f) = .func (.func f) #[] #[] := fun _ => rfl; have e0 : a1.eval (.tmp 21) = .bool false := st.done 7 21 (hdep ⟨7, .data⟩ (by simp) rfl) rfl; exact AnyOrder.step_value rfl (AnyOrder.wanted_none rfl) (.bool false) (AnyOrder.run_move e0) st.inv (Below.refl _ _) rfl)
          | 9, ho => (injection ho with ho; subst ho; have ec : ∀ v, a1.eval (.const v) = v := fun _ => rfl; have ef : ∀ f, a1.eval (.func f) = .func (.func f) #[] #[] := fun _ => rfl; have e0 : a1.eval (.tmp 3) = ptr w.heap.size 0 := st.old hl 3 (by kernel_rfl); have eg : a1.eval (.tmp 22) = .bool false := st.done 8 22 (hdep ⟨8, .guard⟩ (by simp) rfl) rfl; exact AnyOrder.step_value rfl ((AnyOrder.wanted_of rfl rfl eg).trans rfl) (c.V) (run_load_cfg e0 (HS.out.cf.step st.inv)) st.inv (Below.refl _ _) rfl)
          | 10, ho => (injection ho with ho; subst ho; have ec : ∀ v, a1.eval (.const v) = v := fun _ => rfl; have ef : ∀ f, a1.eval (.func f) = .func (.func f) #[] #[] := fun _ => rfl; have e0 : a1.eval (.tmp 4) = ptr r 0 := st.old hl 4 (by kernel_rfl); have eg : a1.eval (.tmp 22) = .bool false := st.done 8 22 (hdep ⟨8, .guard⟩ (by simp) rfl) rfl; exact AnyOrder.step_value rfl ((AnyOrder.wanted_of rfl rfl eg).trans rfl) (b.V) (run_load_bt e0 (HS.out.bt.step st.inv)) st.inv (Below.refl _ _) rfl)
          | 11, ho => (injection ho with ho; subst ho; have ec : ∀ v, a1.eval (.const v) = v := fun _ => rfl; have ef : ∀ f, a1.eval (.func f) = .func (.func f) #[] #[] := fun _ => rfl; have e0 : a1.eval (.tmp 23) = c.V := st.done 9 23 (hdep ⟨9, .data⟩ (by simp) rfl) rfl; have e1 : a1.eval (.tmp 24) = b.V := st.done 10 24 (hdep ⟨10, .data⟩ (by simp) rfl) rfl; have eg : a1.eval (.tmp 22) = .bool false := st.done 8 22 (hdep ⟨8, .chain⟩ (by simp) rfl) rfl; exact AnyOrder.step_call rfl ((AnyOrder.wanted_of rfl rfl eg).trans rfl) 8 #[c.V, b.V] (by generalize a1.eval = ρ at ec ef e0 e1 ⊢; simp [execOp, ec, ef, e0, e1, go_sem]) ((CK.out _).mono (fun e w3 h => by obtain ⟨rfl, hb⟩ := h; exact ⟨_, rfl, st.inv.trans (hb.mono st.inv.size), hb, rfl⟩)))
          | 12, ho => (injection ho with ho; subst ho; have ec : ∀ v, a1.eval (.const v) = v := fun _ => rfl; have ef : ∀ f, a1.eval (.func f) = .func (.func f) #[] #[] := fun _ => rfl; have e0 : a1.eval (.tmp 3) = ptr w.heap.size 0 := st.old hl 3 (by kernel_rfl); have eg : a1.eval (.tmp 22) = .bool false := st.done 8 22 (hdep ⟨8, .guard⟩ (by simp) rfl) rfl; exact AnyOrder.step_value rfl ((AnyOrder.wanted_of rfl rfl eg).trans rfl) (c.V) (run_load_cfg e0 (HS.out.cf.step st.inv)) st.inv (Below.refl _ _) rfl)
          | 13, ho => (injection ho with ho; subst ho; have ec : ∀ v, a1.eval (.const v) = v := fun _ => rfl; have ef : ∀ f, a1.eval (.func f) = .func (.func f) #[] #[] := fun _ => rfl; have e0 : a1.eval (.tmp 4) = ptr r 0 := st.old hl 4 (by kernel_rfl); have eg : a1.eval (.tmp 22) = .bool false := st.done 8 22 (hdep ⟨8, .guard⟩ (by simp) rfl) rfl; exact AnyOrder.step_value rfl ((AnyOrder.wanted_of rfl rfl eg).trans rfl) (ptr r 0) (by generalize a1.eval = ρ at ec ef e0 ⊢; simp [execOp, ec, ef, e0, IntWalk.i64_left, go_sem]) st.inv (Below.refl _ _) rfl)
          | 14, ho => (injection ho with ho; subst ho; have ec : ∀ v, a1.eval (.const v) = v := fun _ => rfl; have ef : ∀ f, a1.eval (.func f) = .func (.func f) #[] #[] := fun _ => rfl; have e0 : a1.eval (.tmp 27) = ptr r 0 := st.done 13 27 (hdep ⟨13, .data⟩ (by simp) rfl) rfl; have eg : a1.eval (.tmp 22) = .bool false := st.done 8 22 (hdep ⟨8, .guard⟩ (by simp) rfl) rfl; exact AnyOrder.step_value rfl ((AnyOrder.wanted_of rfl rfl eg).trans rfl) (.int .i64 b.tok) (by generalize a1.eval = ρ at ec ef e0 ⊢; simp [execOp, ec, ef, e0, IntWalk.i64_left, (HS.out.bt.step st.inv).get0, go_sem]) st.inv (Below.refl _ _) rfl)
          | 15, ho => (injection ho with ho; subst ho; have ec : ∀ v, a1.eval (.const v) = v := fun _ => rfl; have ef : ∀ f, a1.eval (.func f) = .func (.func f) #[] #[] := fun _ => rfl; have e0 : a1.eval (.tmp 4) = ptr r 0 := st.old hl 4 (by kernel_rfl); have eg : a1.eval (.tmp 22) = .bool false := st.done 8 22 (hdep ⟨8, .guard⟩ (by simp) rfl) rfl; exact AnyOrder.step_value rfl ((AnyOrder.wanted_of rfl rfl eg).trans rfl) (ptr r 1) (by generalize a1.eval = ρ at ec ef e0 ⊢; simp [execOp, ec, ef, e0, IntWalk.i64_left, go_sem]) st.inv (Below.refl _ _) rfl)
          | 16, ho => (injection ho with ho; subst ho; have ec : ∀ v, a1.eval (.const v) = v := fun _ => rfl; have ef : ∀ f, a1.eval (.func f) = .func (.func f) #[] #[] := fun _ => rfl; have e0 : a1.eval (.tmp 29) = ptr r 1 := st.done 15 29 (hdep ⟨15, .data⟩ (by simp) rfl) rfl; have eg : a1.eval (.tmp 22) = .bool false := st.done 8 22 (hdep ⟨8, .guard⟩ (by simp) rfl) rfl; exact AnyOrder.step_value rfl ((AnyOrder.wanted_of rfl rfl eg).trans rfl) (.int .i64 b.last) (by generalize a1.eval = ρ at ec ef e0 ⊢; simp [execOp, ec, ef, e0, IntWalk.i64_left, (HS.out.bt.step st.inv).get1, go_sem]) st.inv (Below.refl _ _) rfl)
          | 17, ho => (injection ho with ho; subst ho; have ec : ∀ v, a1.eval (.const v) = v := fun _ => rfl; have ef : ∀ f, a1.eval (.func f) = .func (.func f) #[] #[] := fun _ => rfl; have e0 : a1.eval (.tmp 26) = c.V := st.done 12 26 (hdep ⟨12, .data⟩ (by simp) rfl) rfl; have e1 : a1.eval (.tmp 28) = .int .i64 b.tok := st.done 14 28 (hdep ⟨14, .data⟩ (by simp) rfl) rfl; have e2 : a1.eval (.tmp 30) = .int .i64 b.last := st.done 16 30 (hdep ⟨16, .data⟩ (by simp) rfl) rfl; have eg : a1.eval (.tmp 22) = .bool false := st.done 8 22 (hdep ⟨8, .guard⟩ (by simp) rfl) rfl; exact AnyOrder.step_call rfl ((AnyOrder.wanted_of rfl rfl eg).trans rfl) 9 #[c.V, .int .i64 b.tok, .int .i64 b.last, .int .i64 0] (by generalize a1.eval = ρ at ec ef e0 e1 e2 ⊢; simp [execOp, ec, ef, e0, e1, e2, go_sem]) ((CZ.out _).mono (fun e w3 h => by obtain ⟨rfl, hb⟩ := h; exact ⟨_, rfl, st.inv.trans (hb.mono st.inv.size), hb, rfl⟩)))
          | 18, ho => (injection ho with ho; subst ho; have ec : ∀ v, a1.eval (.const v) = v := fun _ => rfl; have ef : ∀ f, a1.eval (.func f) = .func (.func f) #[] #[] := fun _ => rfl; have e0 : a1.eval (.tmp 25) = .bool g := st.done 11 25 (hdep ⟨11, .data⟩ (by simp) rfl) rfl; have e1 : a1.eval (.tmp 31) = .bool g := st.done 17 31 (hdep ⟨17, .data⟩ (by simp) rfl) rfl; have eg : a1.eval (.tmp 22) = .bool false := st.done 8 22 (hdep ⟨8, .guard⟩ (by simp) rfl) rfl; exact AnyOrder.step_value rfl ((AnyOrder.wanted_of rfl rfl eg).trans rfl) (.bool false) (by generalize a1.eval = ρ at ec ef e0 e1 ⊢; simp [execOp, ec, ef, e0, e1, IntWalk.i64_left, go_sem]) st.inv (Below.refl _ _) rfl)
          | 19, ho => (injection ho with ho; subst ho; have ec : ∀ v, a1.eval (.const v) = v := fun _ => rfl; have ef : ∀ f, a1.eval (.func f) = .func (.func f) #[] #[] := fun _ => rfl; have e0 : a1.eval (.tmp 22) = .bool false := st.done 8 22 (hdep ⟨8, .data⟩ (by simp) rfl) rfl; have e1 : a1.eval (.tmp 32) = .bool false := st.done 18 32 (hdep ⟨18, .data⟩ (by simp) rfl) rfl; exact AnyOrder.step_value rfl (AnyOrder.wanted_none rfl) (.bool false) (by generalize a1.eval = ρ at ec ef e0 e1 ⊢; simp [execOp, ec, ef, e0, e1, IntWalk.i64_left, go_sem]) st.inv (Below.refl _ _) rfl)
          | n + 20, ho => exact absurd hin (by omega)
        · intro w2 hJ
          simp only [AnyOrder.finK, List.take_succ_cons, List.take_zero, List.drop_succ_cons, List.drop_zero, Act.put, List.setIfInBounds_toArray, List.set_cons_zero, List.set_cons_succ]
          replace HS := Lib.hid (HS.out.step hJ)
          clear hJ CN CK CZ
          have k0 := HS.out.bt.get0
          have k1 := HS.out.bt.get1
          go_wp2_with (first | ((with_reducible apply wpList_load_cat (h := HS.out.cf)); exact rfl; exact rfl; exact rfl) | ((with_reducible apply wpList_load_bt (h := HS.out.bt)); exact rfl; exact rfl; exact rfl))
          refine (CR.out _).mono ?_
          rintro e w3 ⟨rfl, hb⟩
          replace HS := Lib.hid (HS.out.step hb)
          clear hb CR
          go_wp2_with (first | ((with_reducible apply wpList_load_cat (h := HS.out.cf)); exact rfl; exact rfl; exact rfl) | ((with_reducible apply wpList_load_bt (h := HS.out.bt)); exact rfl; exact rfl; exact rfl))
          refine (CT.out _).mono ?_
          rintro e w4 ⟨rfl, hb⟩
          replace HS := Lib.hid (HS.out.step hb)
          clear hb CT
          go_upto_region 7 with (refine wpList_store_row rfl 26 _ _ rfl _ (b : Bt).cells rfl rfl 26 _ (heap_alloc_new _ _) (sizeBt _) rfl (Bt.one _) ?_; rw [World.setRow_alloc_new])
          have HD := Lib.hid (HS.out.new b).2
          replace HS := Lib.hid (HS.out.new b).1
          obtain ⟨V, hV⟩ : ∃ V, w4.alloc (.cells (Bt.cells b) 26) = V := ⟨_, rfl⟩
          rw [hV] at HD HS ⊢; clear hV
          generalize w4.heap.size = s at *
          go_upto_region 8 with (first | ((with_reducible apply wpList_load_bt (h := HS.out.bt)); exact rfl; exact rfl; exact rfl) | (refine wpList_store_row rfl 26 _ _ rfl _ (b : Bt).cells rfl rfl 26 _ (heap_alloc_new _ _) (sizeBt _) rfl (Bt.one _) ?_; rw [World.setRow_alloc_new]))
          replace HS := Lib.hid (HS.out.ex HD.out b)
          clear HD
          obtain ⟨V1, hV⟩ : ∃ V1, V.alloc (.cells (Bt.cells b) 26) = V1 := ⟨_, rfl⟩
          rw [hV] at HS ⊢; clear hV
          generalize V.heap.size = u at *
          have k0 := HS.out.bt.get0
          have k1 := HS.out.bt.get1
          go_wp2_with (first | ((with_reducible apply wpList_load_cat (h := HS.out.cf)); exact rfl; exact rfl; exact rfl) | ((with_reducible apply wpList_load_bt (h := HS.out.bt)); exact rfl; exact rfl; exact rfl))
          refine (CG.out _).mono ?_
          rintro e w5 ⟨rfl, hb⟩
          replace HS := Lib.hid (HS.out.step hb)
          clear hb CG
          have k0 := HS.out.bt.get0
          have k1 := HS.out.bt.get1
          go_wp2_with (first | ((with_reducible apply wpList_load_cat (h := HS.out.cf)); exact rfl; exact rfl; exact rfl) | ((with_reducible apply wpList_load_bt (h := HS.out.bt)); exact rfl; exact rfl; exact rfl))
          refine (CL.out _).mono ?_
          rintro e w6 ⟨rfl, hb⟩
          replace HS := Lib.hid (HS.out.step hb)
          clear hb CL
          go_wp2_with (first | ((with_reducible apply wpList_load_bt (h := HS.out.dt)); exact rfl; exact rfl; exact rfl) | ((with_reducible apply wpList_load_bt (h := HS.out.wt)); exact rfl; exact rfl; exact rfl) | ((with_reducible apply wpList_load_cat (h := HS.out.cf)); exact rfl; exact rfl; exact rfl) | ((with_reducible apply wpList_load_bt (h := HS.out.bt)); exact rfl; exact rfl; exact rfl) | ((with_reducible apply wpList_eql_bt (c := b) (d := b) (b := true)); exact rfl; exact rfl; exact rfl; exact rfl; exact Bt.beq_self _))
          refine (CU.out _).mono ?_
          rintro e w7 ⟨rfl, hb⟩
          replace HS := Lib.hid (HS.out.step hb)
          clear hb CU
          go_wp2_with fail
          go_ret
          exact ⟨rfl, HS.out.bel⟩
      · have hl : now = b.last := by omega
        subst hl
        rw [show b.last - b.last + 1 = 1 by omega] at CU
        clear hz hg x1 x2
        generalize okB c b.tok b.last = g at *
        go_enter Try.func3, Try.ntmps3
        go_upto_region 1 with fail
        obtain ⟨W, hW⟩ : ∃ W, (w.alloc (.cells c.cells 24)).alloc (.cells b.cells 26) = W := ⟨_, rfl⟩
        rw [hW] at H ⊢; clear hW
        have HS : Hid (CB w W w.heap.size (w.heap.size + 1) c b) := Lib.hid ⟨H.out.2.1, H.out.2.2, HL.out, H.out.1⟩
        clear H HL
        generalize w.heap.size + 1 = r at *
        go_wp2_with fail
        refine (awake_any _).mono ?_
        rintro e w1 ⟨rfl, hb⟩
        replace HS := Lib.hid (HS.out.step hb)
        clear hb
        go_upto_region 3 with fail
        refine AnyOrder.region_kinds2 20 [.eq (c.V), .eq (.int .i64 b.last), .eq ((⟨c.get 7, b.last⟩ : Bt).V), .eq (ptr w.heap.size 7), .eq (.int .i64 (c.get 7)), .eq (.int .i64 b.last), .eq (.agg #[.int .i64 (c.get 7), .int .i64 b.last]), .eq (.bool false), .eq (.bool false), .eq (c.V), .eq (b.V), .eq (.bool g), .eq (c.V), .eq (ptr r 0), .eq (.int .i64 b.tok), .eq (ptr r 1), .eq (.int .i64 b.last), .eq (.bool g), .eq (.bool false), .eq (.bool false)] (fun wx => Below w1.heap.size w1 wx) (by kernel_rfl) (by kernel_rfl) rfl (by kernel_rfl) (below_drewN (Below.refl _ _) 1) (fun p _ _ hp => by simp at hp) ?_ ?_
        · intro i o listed a1 w2 hin ho st hl hdep
          match i, ho with
          | 0, ho => (injection ho with ho; subst ho; have ec : ∀ v, a1.eval (.const v) = v := fun _ => rfl; have ef : ∀ f, a1.eval (.func f) = .func (.func f) #[] #[] := fun _ => rfl; have e0 : a1.eval (.tmp 3) = ptr w.heap.size 0 := st.old hl 3 (by kernel_rfl); exact AnyOrder.step_value rfl (AnyOrder.wanted_none rfl) (c.V) (run_load_cfg e0 (HS.out.cf.step st.inv)) st.inv (Below.refl _ _) rfl)
          | 1, ho => (injection ho with ho; subst ho; have ec : ∀ v, a1.eval (.const v) = v := fun _ => rfl; have ef : ∀ f, a1.eval (.func f) = .func (.func f) #[] #[] := fun _ => rfl; have e0 : a1.eval (.tmp 2) = .int .i64 b.last := st.old hl 2 (by kernel_rfl); exact AnyOrder.step_value rfl (AnyOrder.wanted_none rfl) (.int .i64 b.last) (AnyOrder.run_move e0) st.inv (Below.refl _ _) rfl)
          | 2, ho => (injection ho with ho; subst ho; have ec : ∀ v, a1.eval (.const v) = v := fun _ => rfl; have ef : ∀ f, a1.eval (.func f) = .func (.func f) #[] #[] := fun _ => rfl; have e0 : a1.eval (.tmp 14) = c.V := st.done 0 14 (hdep ⟨0, .data⟩ (by simp) rfl) rfl; have e1 : a1.eval (.tmp 15) = .int .i64 b.last := st.done 1 15 (hdep ⟨1, .data⟩ (by simp) rfl) rfl; exact AnyOrder.step_call rfl (AnyOrder.wanted_none rfl) 7 #[c.V, .int .i64 b.last] (by generalize a1.eval = ρ at ec ef e0 e1 ⊢; simp [execOp, ec, ef, e0, e1, go_sem]) ((CN.out _).mono (fun e w3 h => by obtain ⟨rfl, hb⟩ := h; exact ⟨_, rfl, st.inv.trans (hb.mono st.inv.size), hb, rfl⟩)))
          | 3, ho => (injection ho with ho; subst ho; have ec : ∀ v, a1.eval (.const v) = v := fun _ => rfl; have ef : ∀ f, a1.eval (.func f) = .func (.func f) #[] #[] := fun _ => rfl; have e0 : a1.eval (.tmp 3) = ptr w.heap.size 0 := st.old hl 3 (by kernel_rfl); exact AnyOrder.step_value rfl (AnyOrder.wanted_none rfl) (ptr w.heap.size 7) (by generalize a1.eval = ρ at ec ef e0 ⊢; simp [execOp, ec, ef, e0, IntWalk.i64_left, go_sem]) st.inv (Below.refl _ _) rfl)
          | 4, ho => (injection ho with ho; subst ho; have ec : ∀ v, a1.eval (.const v) = v := fun _ => rfl; have ef : ∀ f, a1.eval (.func f) = .func (.func f) #[] #[] := fun _ => rfl; have e0 : a1.eval (.tmp 17) = ptr w.heap.size 7 := st.done 3 17 (hdep ⟨3, .data⟩ (by simp) rfl) rfl; exact AnyOrder.step_value rfl (AnyOrder.wanted_none rfl) (.int .i64 (c.get 7)) (by generalize a1.eval = ρ at ec ef e0 ⊢; simp [execOp, ec, ef, e0, IntWalk.i64_left, ((HS.out.cf.step st.inv).get (k := 7) (by omega)), go_sem]) st.inv (Below.refl _ _) rfl)
          | 5, ho => (injection ho with ho; subst ho; have ec : ∀ v, a1.eval (.const v) = v := fun _ => rfl; have ef : ∀ f, a1.eval (.func f) = .func (.func f) #[] #[] := fun _ => rfl; have e0 : a1.eval (.tmp 2) = .int .i64 b.last := st.old hl 2 (by kernel_rfl); exact AnyOrder.step_value rfl (AnyOrder.wanted_none rfl) (.int .i64 b.last) (AnyOrder.run_move e0) st.inv (Below.refl _ _) rfl)
          | 6, ho => (injection ho with ho; subst ho; have ec : ∀ v, a1.eval (.const v) = v := fun _ => rfl; have ef : ∀ f, a1.eval (.func f) = .func (.func f) #[] #[] := fun _ => rfl; have e0 : a1.eval (.tmp 18) = .int .i64 (c.get 7) := st.done 4 18 (hdep ⟨4, .data⟩ (by simp) rfl) rfl; have e1 : a1.eval (.tmp 19) = .int .i64 b.last := st.done 5 19 (hdep ⟨5, .data⟩ (by simp) rfl) rfl; exact AnyOrder.step_value rfl (AnyOrder.wanted_none rfl) (.agg #[.int .i64 (c.get 7), .int .i64 b.last]) (by generalize a1.eval = ρ at ec ef e0 e1 ⊢; simp [execOp, ec, ef, e0, e1, IntWalk.i64_left, go_sem]) st.inv (Below.refl _ _) rfl)
          | 7, ho => (injection ho with ho; subst ho; have ec : ∀ v, a1.eval (.const v) = v := fun _ => rfl; have ef : ∀ f, a1.eval (.func f) = .func (.func f) #[] #[] := fun _ => rfl; have e0 : a1.eval (.tmp 16) = (⟨c.get 7, b.last⟩ : Bt).V := st.done 2 16 (hdep ⟨2, .data⟩ (by simp) rfl) rfl; have e1 : a1.eval (.tmp 20) = .agg #[.int .i64 (c.get 7), .int .i64 b.last] := st.done 6 20 (hdep ⟨6, .data⟩ (by simp) rfl) rfl; exact AnyOrder.step_value rfl (AnyOrder.wanted_none rfl) (.bool false) (run_neqBt_self (x := ⟨c.get 7, b.last⟩) e0 e1) st.inv (Below.refl _ _) rfl)
          | 8, ho => (injection ho with ho; subst ho; have ec : ∀ v, a1.eval (.const v) = v := fun _ => rfl; have ef : ∀ f, a1.eval (.func f) = .func (.func f) #[] #[] := fun _ => rfl; have e0 : a1.eval (.tmp 21) = .bool false := st.done 7 21 (hdep ⟨7, .data⟩ (by simp) rfl) rfl; exact AnyOrder.step_value rfl (AnyOrder.wanted_none rfl) (.bool false) (AnyOrder.run_move e0) st.inv (Below.refl _ _) rfl)
          | 9, ho => (injection ho with ho; subst ho; have ec : ∀ v, a1.eval (.const v) = v := fun _ => rfl; have ef : ∀ f, a1.eval (.func f) = .func (.func f) #[] #[] := fun _ => rfl; have e0 : a1.eval (.tmp 3) = ptr w.heap.size 0 := st.old hl 3 (by kernel_rfl); have eg : a1.eval (.tmp 22) = .bool false := st.done 8 22 (hdep ⟨8, .guard⟩ (by simp) rfl) rfl; exact AnyOrder.step_value rfl ((AnyOrder.wanted_of rfl rfl eg).trans rfl) (c.V) (run_load_cfg e0 (HS.out.cf.step st.inv)) st.inv (Below.refl _ _) rfl)
          | 10, ho => (injection ho with ho; subst ho; have ec : ∀ v, a1.eval (.const v) = v := fun _ => rfl; have ef : ∀ f, a1.eval (.func f) = .func (.func f) #[] #[] := fun _ => rfl; have e0 : a1.eval (.tmp 4) = ptr r 0 := st.old hl 4 (by kernel_rfl); have eg : a1.eval (.tmp 22) = .bool false := st.done 8 22 (hdep ⟨8, .guard⟩ (by simp) rfl) rfl; exact AnyOrder.step_value rfl ((AnyOrder.wanted_of rfl rfl eg).trans rfl) (b.V) (run_load_bt e0 (HS.out.bt.step st.inv)) st.inv (Below.refl _ _) rfl)
          | 11, ho => (injection ho with ho; subst ho; have ec : ∀ v, a1.eval (.const v) = v := fun _ => rfl; have ef : ∀ f, a1.eval (.func f) = .func (.func f) #[] #[] := fun _ => rfl; have e0 : a1.eval (.tmp 23) = c.V := st.done 9 23 (hdep ⟨9, .data⟩ (by simp) rfl) rfl; have e1 : a1.eval (.tmp 24) = b.V := st.done 10 24 (hdep ⟨10, .data⟩ (by simp) rfl) rfl; have eg : a1.eval (.tmp 22) = .bool false := st.done 8 22 (hdep ⟨8, .chain⟩ (by simp) rfl) rfl; exact AnyOrder.step_call rfl ((AnyOrder.wanted_of rfl rfl eg).trans rfl) 8 #[c.V, b.V] (by generalize a1.eval = ρ at ec ef e0 e1 ⊢; simp [execOp, ec, ef, e0, e1, go_sem]) ((CK.out _).mono (fun e w3 h => by obtain ⟨rfl, hb⟩ := h; exact ⟨_, rfl, st.inv.trans (hb.mono st.inv.size), hb, rfl⟩)))
          | 12, ho => (injection ho with ho; subst ho; have ec : ∀ v, a1.eval (.const v) = v := fun _ => rfl; have ef : ∀ f, a1.eval (.func f) = .func (.func f) #[] #[] := fun _ => rfl; have e0 : a1.eval (.tmp 3) = ptr w.heap.size 0 := st.old hl 3 (by kernel_rfl); have eg : a1.eval (.tmp 22) = .bool false := st.done 8 22 (hdep ⟨8, .guard⟩ (by simp) rfl) rfl; exact AnyOrder.step_value rfl ((AnyOrder.wanted_of rfl rfl eg).trans rfl) (c.V) (run_load_cfg e0 (HS.out.cf.step st.inv)) st.inv (Below.refl _ _) rfl)
          | 13, ho => (injection ho with ho; subst ho; have ec : ∀ v, a1.eval (.const v) = v := fun _ => rfl; have ef : ∀ f, a1.eval (.func f) = .func (.func f) #[] #[] := fun _ => rfl; have e0 : a1.eval (.tmp 4) = ptr r 0 := st.old hl 4 (by kernel_rfl); have eg : a1.eval (.tmp 22) = .bool false := st.done 8 22 (hdep ⟨8, .guard⟩ (by simp) rfl) rfl; exact AnyOrder.step_value rfl ((AnyOrder.wanted_of rfl rfl eg).trans rfl) (ptr r 0) (by generalize a1.eval = ρ at ec ef e0 ⊢; simp [execOp, ec, ef, e0, IntWalk.i64_left, go_sem]) st.inv (Below.refl _ _) rfl)
          | 14, ho => (injection ho with ho; subst ho; have ec : ∀ v, a1.eval (.const v) = v := fun _ => rfl; have ef : ∀ f, a1.eval (.func f) = .func (.func f) #[] #[] := fun _ => rfl; have e0 : a1.eval (.tmp 27) = ptr r 0 := st.done 13 27 (hdep ⟨13, .data⟩ (by simp) rfl) rfl; have eg : a1.eval (.tmp 22) = .bool false := st.done 8 22 (hdep ⟨8, .guard⟩ (by simp) rfl) rfl; exact AnyOrder.step_value rfl ((AnyOrder.wanted_of rfl rfl eg).trans rfl) (.int .i64 b.tok) (by generalize a1.eval = ρ at ec ef e0 ⊢; simp [execOp, ec, ef, e0, IntWalk.i64_left, (HS.out.bt.step st.inv).get0, go_sem]) st.inv (Below.refl _ _) rfl)
          | 15, ho => (injection ho with ho; subst ho; have ec : ∀ v, a1.eval (.const v) = v := fun _ => rfl; have ef : ∀ f, a1.eval (.func f) = .func (.func f) #[] #[] := fun _ => rfl; have e0 : a1.eval (.tmp 4) = ptr r 0 := st.old hl 4 (by kernel_rfl); have eg : a1.eval (.tmp 22) = .bool false := st.done 8 22 (hdep ⟨8, .guard⟩ (by simp) rfl) rfl; exact AnyOrder.step_value rfl ((AnyOrder.wanted_of rfl rfl eg).trans rfl) (ptr r 1) (by generalize a1.eval = ρ at ec ef e0 ⊢; simp [execOp, ec, ef, e0, IntWalk.i64_left, go_sem]) st.inv (Below.refl _ _) rfl)
          | 16, ho => (injection ho with ho; subst ho; have ec : ∀ v, a1.eval (.const v) = v := fun _ => rfl; have ef : ∀ f, a1.eval (.func f) = .func (.func f) #[] #[] := fun _ => rfl; have e0 : a1.eval (.tmp 29) = ptr r 1 := st.done 15 29 (hdep ⟨15, .data⟩ (by simp) rfl) rfl; have eg : a1.eval (.tmp 22) = .bool false := st.done 8 22 (hdep ⟨8, .guard⟩ (by simp) rfl) rfl; exact AnyOrder.step_value rfl ((AnyOrder.wanted_of rfl rfl eg).trans rfl) (.int .i64 b.last) (by generalize a1.eval = ρ at ec ef e0 ⊢; simp [execOp, ec, ef, e0, IntWalk.i64_left, (HS.out.bt.step st.inv).get1, go_sem]) st.inv (Below.refl _ _) rfl)
          | 17, ho => (injection ho with ho; subst ho; have ec : ∀ v, a1.eval (.const v) = v := fun _ => rfl; have ef : ∀ f, a1.eval (.func f) = .func (.func f) #[] #[] := fun _ => rfl; have e0 : a1.eval (.tmp 26) = c.V := st.done 12 26 (hdep ⟨12, .data⟩ (by simp) rfl) rfl; have e1 : a1.eval (.tmp 28) = .int .i64 b.tok := st.done 14 28 (hdep ⟨14, .data⟩ (by simp) rfl) rfl; have e2 : a1.eval (.tmp 30) = .int .i64 b.last := st.done 16 30 (hdep ⟨16, .data⟩ (by simp) rfl) rfl; have eg : a1.eval (.tmp 22) = .bool false := st.done 8 22 (hdep ⟨8, .guard⟩ (by simp) rfl) rfl; exact AnyOrder.step_call rfl ((AnyOrder.wanted_of rfl rfl eg).trans rfl) 9 #[c.V, .int .i64 b.tok, .int .i64 b.last, .int .i64 0] (by generalize a1.eval = ρ at ec ef e0 e1 e2 ⊢; simp [execOp, ec, ef, e0, e1, e2, go_sem]) ((CZ.out _).mono (fun e w3 h => by obtain ⟨rfl, hb⟩ := h; exact ⟨_, rfl, st.inv.trans (hb.mono st.inv.size), hb, rfl⟩)))
          | 18, ho => (injection ho with ho; subst ho; have ec : ∀ v, a1.eval (.const v) = v := fun _ => rfl; have ef : ∀ f, a1.eval (.func f) = .func (.func f) #[] #[] := fun _ => rfl; have e0 : a1.eval (.tmp 25) = .bool g := st.done 11 25 (hdep ⟨11, .data⟩ (by simp) rfl) rfl; have e1 : a1.eval (.tmp 31) = .bool g := st.done 17 31 (hdep ⟨17, .data⟩ (by simp) rfl) rfl; have eg : a1.eval (.tmp 22) = .bool false := st.done 8 22 (hdep ⟨8, .guard⟩ (by simp) rfl) rfl; exact AnyOrder.step_value rfl ((AnyOrder.wanted_of rfl rfl eg).trans rfl) (.bool false) (by generalize a1.eval = ρ at ec ef e0 e1 ⊢; simp [execOp, ec, ef, e0, e1, IntWalk.i64_left, go_sem]) st.inv (Below.refl _ _) rfl)
          | 19, ho => (injection ho with ho; subst ho; have ec : ∀ v, a1.eval (.const v) = v := fun _ => rfl; have ef : ∀ f, a1.eval (.func f) = .func (.func f) #[] #[] := fun _ => rfl; have e0 : a1.eval (.tmp 22) = .bool false := st.done 8 22 (hdep ⟨8, .data⟩ (by simp) rfl) rfl; have e1 : a1.eval (.tmp 32) = .bool false := st.done 18 32 (hdep ⟨18, .data⟩ (by simp) rfl) rfl; exact AnyOrder.step_value rfl (AnyOrder.wanted_none rfl) (.bool false) (by generalize a1.eval = ρ at ec ef e0 e1 ⊢; simp [execOp, ec, ef, e0, e1, IntWalk.i64_left, go_sem]) st.inv (Below.refl _ _) rfl)
          | n + 20, ho => exact absurd hin (by omega)
        · intro w2 hJ
          simp only [AnyOrder.finK, List.take_succ_cons, List.take_zero, List.drop_succ_cons, List.drop_zero, Act.put, List.setIfInBounds_toArray, List.set_cons_zero, List.set_cons_succ]
          replace HS := Lib.hid (HS.out.step hJ)
          clear hJ CN CK CZ
          have k0 := HS.out.bt.get0
          have k1 := HS.out.bt.get1
          go_wp2_with (first | ((with_reducible apply wpList_load_cat (h := HS.out.cf)); exact rfl; exact rfl; exact rfl) | ((with_reducible apply wpList_load_bt (h := HS.out.bt)); exact rfl; exact rfl; exact rfl))
          refine (CR.out _).mono ?_
          rintro e w3 ⟨rfl, hb⟩
          replace HS := Lib.hid (HS.out.step hb)
          clear hb CR
          go_wp2_with (first | ((with_reducible apply wpList_load_cat (h := HS.out.cf)); exact rfl; exact rfl; exact rfl) | ((with_reducible apply wpList_load_bt (h := HS.out.bt)); exact rfl; exact rfl; exact rfl))
          refine (CT.out _).mono ?_
          rintro e w4 ⟨rfl, hb⟩
          replace HS := Lib.hid (HS.out.step hb)
          clear hb CT
          go_upto_region 7 with (refine wpList_store_row rfl 26 _ _ rfl _ (b : Bt).cells rfl rfl 26 _ (heap_alloc_new _ _) (sizeBt _) rfl (Bt.one _) ?_; rw [World.setRow_alloc_new])
          have HD := Lib.hid (HS.out.new b).2
          replace HS := Lib.hid (HS.out.new b).1
          obtain ⟨V, hV⟩ : ∃ V, w4.alloc (.cells (Bt.cells b) 26) = V := ⟨_, rfl⟩
          rw [hV] at HD HS ⊢; clear hV
          generalize w4.heap.size = s at *
          go_upto_region 8 with (first | ((with_reducible apply wpList_load_bt (h := HS.out.bt)); exact rfl; exact rfl; exact rfl) | (refine wpList_store_row rfl 26 _ _ rfl _ (b : Bt).cells rfl rfl 26 _ (heap_alloc_new _ _) (sizeBt _) rfl (Bt.one _) ?_; rw [World.setRow_alloc_new]))
          replace HS := Lib.hid (HS.out.ex HD.out b)
          clear HD
          obtain ⟨V1, hV⟩ : ∃ V1, V.alloc (.cells (Bt.cells b) 26) = V1 := ⟨_, rfl⟩
          rw [hV] at HS ⊢; clear hV
          generalize V.heap.size = u at *
          have k0 := HS.out.bt.get0
          have k1 := HS.out.bt.get1
          go_wp2_with (first | ((with_reducible apply wpList_load_cat (h := HS.out.cf)); exact rfl; exact rfl; exact rfl) | ((with_reducible apply wpList_load_bt (h := HS.out.bt)); exact rfl; exact rfl; exact rfl))
          refine (CG.out _).mono ?_
          rintro e w5 ⟨rfl, hb⟩
          replace HS := Lib.hid (HS.out.step hb)
          clear hb CG
          have k0 := HS.out.bt.get0
          have k1 := HS.out.bt.get1
          go_wp2_with (first | ((with_reducible apply wpList_load_cat (h := HS.out.cf)); exact rfl; exact rfl; exact rfl) | ((with_reducible apply wpList_load_bt (h := HS.out.bt)); exact rfl; exact rfl; exact rfl))
          refine (CL.out _).mono ?_
          rintro e w6 ⟨rfl, hb⟩
          replace HS := Lib.hid (HS.out.step hb)
          clear hb CL
          go_wp2_with (first | ((with_reducible apply wpList_load_bt (h := HS.out.dt)); exact rfl; exact rfl; exact rfl) | ((with_reducible apply wpList_load_bt (h := HS.out.wt)); exact rfl; exact rfl; exact rfl) | ((with_reducible apply wpList_load_cat (h := HS.out.cf)); exact rfl; exact rfl; exact rfl) | ((with_reducible apply wpList_load_bt (h := HS.out.bt)); exact rfl; exact rfl; exact rfl) | ((with_reducible apply wpList_eql_bt (c := b) (d := b) (b := true)); exact rfl; exact rfl; exact rfl; exact rfl; exact Bt.beq_self _))
          refine (CU.out _).mono ?_
          rintro e w7 ⟨rfl, hb⟩
          replace HS := Lib.hid (HS.out.step hb)
          clear hb CU
          go_wp2_with fail
          go_ret
          exact ⟨rfl, HS.out.bel⟩
  · have hg' : (okB c b.tok b.last && tick now) = false := by simpa using hg
    have hx : lev c b.tok b.last now = 0 := by unfold lev; rw [hg']; rfl
    have hun : unt c b now = -1 := by unfold unt; rw [hg']; rfl
    have htk : tkn c b now = b := if_neg (by omega)
    rw [htk, decide_eq_false (by omega)] at CT
    rw [hx] at CR CL
    rw [hun] at CU
    rw [hg'] at CG
    clear hg hg' hx hun htk
    generalize okB c b.tok b.last = g at *
    go_enter Try.func3, Try.ntmps3
    go_upto_region 1 with fail
    obtain ⟨W, hW⟩ : ∃ W, (w.alloc (.cells c.cells 24)).alloc (.cells b.cells 26) = W := ⟨_, rfl⟩
    rw [hW] at H ⊢; clear hW
    have HS : Hid (CB w W w.heap.size (w.heap.size + 1) c b) := Lib.hid ⟨H.out.2.1, H.out.2.2, HL.out, H.out.1⟩
    clear H HL
    generalize w.heap.size + 1 = r at *
    go_wp2_with fail
    refine (awake_any _).mono ?_
    rintro e w1 ⟨rfl, hb⟩
    replace HS := Lib.hid (HS.out.step hb)
    clear hb
    go_upto_region 3 with fail
    refine AnyOrder.region_kinds2 20 [.eq (c.V), .eq (.int .i64 now), .eq ((⟨c.get 7, now⟩ : Bt).V), .eq (ptr w.heap.size 7), .eq (.int .i64 (c.get 7)), .eq (.int .i64 now), .eq (.agg #[.int .i64 (c.get 7), .int .i64 now]), .eq (.bool false), .eq (.bool false), .eq (c.V), .eq (b.V), .eq (.bool g), .eq (c.V), .eq (ptr r 0), .eq (.int .i64 b.tok), .eq (ptr r 1), .eq (.int .i64 b.last), .eq (.bool g), .eq (.bool false), .eq (.bool false)] (fun wx => Below w1.heap.size w1 wx) (by kernel_rfl) (by kernel_rfl) rfl (by kernel_rfl) (below_drewN (Below.refl _ _) 1) (fun p _ _ hp => by simp at hp) ?_ ?_
    · intro i o listed a1 w2 hin ho st hl hdep
      match i, ho with
      | 0, ho => (injection ho with ho; subst ho; have ec : ∀ v, a1.eval (.const v) = v := fun _ => rfl; have ef : ∀ f, a1.eval (.func f) = .func (.func f) #[] #[] := fun _ => rfl; have e0 : a1.eval (.tmp 3) = ptr w.heap.size 0 := st.old hl 3 (by kernel_rfl); exact AnyOrder.step_value rfl (AnyOrder.wanted_none rfl) (c.V) (run_load_cfg e0 (HS.out.cf.step st.inv)) st.inv (Below.refl _ _) rfl)
      | 1, ho => (injection ho with ho; subst ho; have ec : ∀ v, a1.eval (.const v) = v := fun _ => rfl; have ef : ∀ f, a1.eval (.func f) = .func (.func f) #[] #[] := fun _ => rfl; have e0 : a1.eval (.tmp 2) = .int .i64 now := st.old hl 2 (by kernel_rfl); exact AnyOrder.step_value rfl (AnyOrder.wanted_none rfl) (.int .i64 now) (AnyOrder.run_move e0) st.inv (Below.refl _ _) rfl)
      | 2, ho => (injection ho with ho; subst ho; have ec : ∀ v, a1.eval (.const v) = v := fun _ => rfl; have ef : ∀ f, a1.eval (.func f) = .func (.func f) #[] #[] := fun _ => rfl; have e0 : a1.eval (.tmp 14) = c.V := st.done 0 14 (hdep ⟨0, .data⟩ (by simp) rfl) rfl; have e1 : a1.eval (.tmp 15) = .int .i64 now := st.done 1 15 (hdep ⟨1, .data⟩ (by simp) rfl) rfl; exact AnyOrder.step_call rfl (AnyOrder.wanted_none rfl) 7 #[c.V, .int .i64 now] (by generalize a1.eval = ρ at ec ef e0 e1 ⊢; simp [execOp, ec, ef, e0, e1, go_sem]) ((CN.out _).mono (fun e w3 h => by obtain ⟨rfl, hb⟩ := h; exact ⟨_, rfl, st.inv.trans (hb.mono st.inv.size), hb, rfl⟩)))
      | 3, ho => (injection ho with ho; subst ho; have ec : ∀ v, a1.eval (.const v) = v := fun _ => rfl; have ef : ∀ f, a1.eval (.func f) = .func (.func f) #[] #[] := fun _ => rfl; have e0 : a1.eval (.tmp 3) = ptr w.heap.size 0 := st.old hl 3 (by kernel_rfl); exact AnyOrder.step_value rfl (AnyOrder.wanted_none rfl) (ptr w.heap.size 7) (by generalize a1.eval = ρ at ec ef e0 ⊢; simp [execOp, ec, ef, e0, IntWalk.i64_left, go_sem]) st.inv (Below.refl _ _) rfl)
      | 4, ho => (injection ho with ho; subst ho; have ec : ∀ v, a1.eval (.const v) = v := fun _ => rfl; have ef : ∀ f, a1.eval (.func f) = .func (.func f) #[] #[] := fun _ => rfl; have e0 : a1.eval (.tmp 17) = ptr w.heap.size 7 := st.done 3 17 (hdep ⟨3, .data⟩ (by simp) rfl) rfl; exact AnyOrder.step_value rfl (AnyOrder.wanted_none rfl) (.int .i64 (c.get 7)) (by generalize a1.eval = ρ at ec ef e0 ⊢; simp [execOp, ec, ef, e0, IntWalk.i64_left, ((HS.out.cf.step st.inv).get (k := 7) (by omega)), go_sem]) st.inv (Below.refl _ _) rfl)
      | 5, ho => (injection ho with ho; subst ho; have ec : ∀ v, a1.eval (.const v) = v := fun _ => rfl; have ef : ∀ f, a1.eval (.func f) = .func (.func f) #[] #[] := fun _ => rfl; have e0 : a1.eval (.tmp 2) = .int .i64 now := st.old hl 2 (by kernel_rfl); exact AnyOrder.step_value rfl (AnyOrder.wanted_none rfl) (.int .i64 now) (AnyOrder.run_move e0) st.inv (Below.refl _ _) rfl)
      | 6, ho => (injection ho with ho; subst ho; have ec : ∀ v, a1.eval (.const v) = v := fun _ => rfl; have ef : ∀ f, a1.eval (.func f) = .func (.func f) #[] #[] := fun _ => rfl; have e0 : a1.eval (.tmp 18) = .int .i64 (c.get 7) := st.done 4 18 (hdep ⟨4, .data⟩ (by simp) rfl) rfl; have e1 : a1.eval (.tmp 19) = .int .i64 now := st.done 5 19 (hdep ⟨5, .data⟩ (by simp) rfl) rfl; exact AnyOrder.step_value rfl (AnyOrder.wanted_none rfl) (.agg #[.int .i64 (c.get 7), .int .i64 now]) (by generalize a1.eval = ρ at ec ef e0 e1 ⊢; simp [execOp, ec, ef, e0, e1, IntWalk.i64_left, go_sem]) st.inv (Below.refl _ _) rfl)
      | 7, ho => (injection ho with ho; subst ho; have ec : ∀ v, a1.eval (.const v) = v := fun _ => rfl; have ef : ∀ f, a1.eval (.func f) = .func (.func f) #[] #[] := fun _ => rfl; have e0 : a1.eval (.tmp 16) = (⟨c.get 7, now⟩ : Bt).V := st.done 2 16 (hdep ⟨2, .data⟩ (by simp) rfl) rfl; have e1 : a1.eval (.tmp 20) = .agg #[.int .i64 (c.get 7), .int .i64 now] := st.done 6 20 (hdep ⟨6, .data⟩ (by simp) rfl) rfl; exact AnyOrder.step_value rfl (AnyOrder.wanted_none rfl) (.bool false) (run_neqBt_self (x := ⟨c.get 7, now⟩) e0 e1) st.inv (Below.refl _ _) rfl)
      | 8, ho => (injection ho with ho; subst ho; have ec : ∀ v, a1.eval (.const v) = v := fun _ => rfl; have ef : ∀ f, a1.eval (.func f) = .func (.func f) #[] #[] := fun _ => rfl; have e0 : a1.eval (.tmp 21) = .bool false := st.done 7 21 (hdep ⟨7, .data⟩ (by simp) rfl) rfl; exact AnyOrder.step_value rfl (AnyOrder.wanted_none rfl) (.bool false) (AnyOrder.run_move e0) st.inv (Below.refl _ _) rfl)
      | 9, ho => (injection ho with ho; subst ho; have ec : ∀ v, a1.eval (.const v) = v := fun _ => rfl; have ef : ∀ f, a1.eval (.func f) = .func (.func f) #[] #[] := fun _ => rfl; have e0 : a1.eval (.tmp 3) = ptr w.heap.size 0 := st.old hl 3 (by kernel_rfl); have eg : a1.eval (.tmp 22) = .bool false := st.done 8 22 (hdep ⟨8, .guard⟩ (by simp) rfl) rfl; exact AnyOrder.step_value rfl ((AnyOrder.wanted_of rfl rfl eg).trans rfl) (c.V) (run_load_cfg e0 (HS.out.cf.step st.inv)) st.inv (Below.refl _ _) rfl)
      | 10, ho => (injection ho with ho; subst ho; have ec : ∀ v, a1.eval (.const v) = v := fun _ => rfl; have ef : ∀ f, a1.eval (.func f) = .func (.func f) #[] #[] := fun _ => rfl; have e0 : a1.eval (.tmp 4) = ptr r 0 := st.old hl 4 (by kernel_rfl); have eg : a1.eval (.tmp 22) = .bool false := st.done 8 22 (hdep ⟨8, .guard⟩ (by simp) rfl) rfl; exact AnyOrder.step_value rfl ((AnyOrder.wanted_of rfl rfl eg).trans rfl) (b.V) (run_load_bt e0 (HS.out.bt.step st.inv)) st.inv (Below.refl _ _) rfl)
      | 11, ho => (injection ho with ho; subst ho; have ec : ∀ v, a1.eval (.const v) = v := fun _ => rfl; have ef : ∀ f, a1.eval (.func f) = .func (.func f) #[] #[] := fun _ => rfl; have e0 : a1.eval (.tmp 23) = c.V := st.done 9 23 (hdep ⟨9, .data⟩ (by simp) rfl) rfl; have e1 : a1.eval (.tmp 24) = b.V := st.done 10 24 (hdep ⟨10, .data⟩ (by simp) rfl) rfl; have eg : a1.eval (.tmp 22) = .bool false := st.done 8 22 (hdep ⟨8, .chain⟩ (by simp) rfl) rfl; exact AnyOrder.step_call rfl ((AnyOrder.wanted_of rfl rfl eg).trans rfl) 8 #[c.V, b.V] (by generalize a1.eval = ρ at ec ef e0 e1 ⊢; simp [execOp, ec, ef, e0, e1, go_sem]) ((CK.out _).mono (fun e w3 h => by obtain ⟨rfl, hb⟩ := h; exact ⟨_, rfl, st.inv.trans (hb.mono st.inv.size), hb, rfl⟩)))
      | 12, ho => (injection ho with ho; subst ho; have ec : ∀ v, a1.eval (.const v) = v := fun _ => rfl; have ef : ∀ f, a1.eval (.func f) = .func (.func f) #[] #[] := fun _ => rfl; have e0 : a1.eval (.tmp 3) = ptr w.heap.size 0 := st.old hl 3 (by kernel_rfl); have eg : a1.eval (.tmp 22) = .bool false := st.done 8 22 (hdep ⟨8, .guard⟩ (by simp) rfl) rfl; exact AnyOrder.step_value rfl ((AnyOrder.wanted_of rfl rfl eg).trans rfl) (c.V) (run_load_cfg e0 (HS.out.cf.step st.inv)) st.inv (Below.refl _ _) rfl)
      | 13, ho => (injection ho with ho; subst ho; have ec : ∀ v, a1.eval (.const v) = v := fun _ => rfl; have ef : ∀ f, a1.eval (.func f) = .func (.func f) #[] #[] := fun _ => rfl; have e0 : a1.eval (.tmp 4) = ptr r 0 := st.old hl 4 (by kernel_rfl); have eg : a1.eval (.tmp 22) = .bool false := st.done 8 22 (hdep ⟨8, .guard⟩ (by simp) rfl) rfl; exact AnyOrder.step_value rfl ((AnyOrder.wanted_of rfl rfl eg).trans rfl) (ptr r 0) (by generalize a1.eval = ρ at ec ef e0 ⊢; simp [execOp, ec, ef, e0, IntWalk.i64_left, go_sem]) st.inv (Below.refl _ _) rfl)
      | 14, ho => (injection ho with ho; subst ho; have ec : ∀ v, a1.eval (.const v) = v := fun _ => rfl; have ef : ∀ f, a1.eval (.func f) = .func (.func f) #[] #[] := fun _ => rfl; have e0 : a1.eval (.tmp 27) = ptr r 0 := st.done 13 27 (hdep ⟨13, .data⟩ (by simp) rfl) rfl; have eg : a1.eval (.tmp 22) = .bool false := st.done 8 22 (hdep ⟨8, .guard⟩ (by simp) rfl) rfl; exact AnyOrder.step_value rfl ((AnyOrder.wanted_of rfl rfl eg).trans rfl) (.int .i64 b.tok) (by generalize a1.eval = ρ at ec ef e0 ⊢; simp [execOp, ec, ef, e0, IntWalk.i64_left, (HS.out.bt.step st.inv).get0, go_sem]) st.inv (Below.refl _ _) rfl)
      | 15, ho => (injection ho with ho; subst ho; have ec : ∀ v, a1.eval (.const v) = v := fun _ => rfl; have ef : ∀ f, a1.eval (.func f) = .func (.func f) #[] #[] := fun _ => rfl; have e0 : a1.eval (.tmp 4) = ptr r 0 := st.old hl 4 (by kernel_rfl); have eg : a1.eval (.tmp 22) = .bool false := st.done 8 22 (hdep ⟨8, .guard⟩ (by simp) rfl) rfl; exact AnyOrder.step_value rfl ((AnyOrder.wanted_of rfl rfl eg).trans rfl) (ptr r 1) (by generalize a1.eval = ρ at ec ef e0 ⊢; simp [execOp, ec, ef, e0, IntWalk.i64_left, go_sem]) st.inv (Below.refl _ _) rfl)
      | 16, ho => (injection ho with ho; subst ho; have ec : ∀ v, a1.eval (.const v) = v := fun _ => rfl; have ef : ∀ f, a1.eval (.func f) = .func (.func f) #[] #[] := fun _ => rfl; have e0 : a1.eval (.tmp 29) = ptr r 1 := st.done 15 29 (hdep ⟨15, .data⟩ (by simp) rfl) rfl; have eg : a1.eval (.tmp 22) = .bool false := st.done 8 22 (hdep ⟨8, .guard⟩ (by simp) rfl) rfl; exact AnyOrder.step_value rfl ((AnyOrder.wanted_of rfl rfl eg).trans rfl) (.int .i64 b.last) (by generalize a1.eval = ρ at ec ef e0 ⊢; simp [execOp, ec, ef, e0, IntWalk.i64_left, (HS.out.bt.step st.inv).get1, go_sem]) st.inv (Below.refl _ _) rfl)
      | 17, ho => (injection ho with ho; subst ho; have ec : ∀ v, a1.eval (.const v) = v := fun _ => rfl; have ef : ∀ f, a1.eval (.func f) = .func (.func f) #[] #[] := fun _ => rfl; have e0 : a1.eval (.tmp 26) = c.V := st.done 12 26 (hdep ⟨12, .data⟩ (by simp) rfl) rfl; have e1 : a1.eval (.tmp 28) = .int .i64 b.tok := st.done 14 28 (hdep ⟨14, .data⟩ (by simp) rfl) rfl; have e2 : a1.eval (.tmp 30) = .int .i64 b.last := st.done 16 30 (hdep ⟨16, .data⟩ (by simp) rfl) rfl; have eg : a1.eval (.tmp 22) = .bool false := st.done 8 22 (hdep ⟨8, .guard⟩ (by simp) rfl) rfl; exact AnyOrder.step_call rfl ((AnyOrder.wanted_of rfl rfl eg).trans rfl) 9 #[c.V, .int .i64 b.tok, .int .i64 b.last, .int .i64 0] (by generalize a1.eval = ρ at ec ef e0 e1 e2 ⊢; simp [execOp, ec, ef, e0, e1, e2, go_sem]) ((CZ.out _).mono (fun e w3 h => by obtain ⟨rfl, hb⟩ := h; exact ⟨_, rfl, st.inv.trans (hb.mono st.inv.size), hb, rfl⟩)))
      | 18, ho => (injection ho with ho; subst ho; have ec : ∀ v, a1.eval (.const v) = v := fun _ => rfl; have ef : ∀ f, a1.eval (.func f) = .func (.func f) #[] #[] := fun _ => rfl; have e0 : a1.eval (.tmp 25) = .bool g := st.done 11 25 (hdep ⟨11, .data⟩ (by simp) rfl) rfl; have e1 : a1.eval (.tmp 31) = .bool g := st.done 17 31 (hdep ⟨17, .data⟩ (by simp) rfl) rfl; have eg : a1.eval (.tmp 22) = .bool false := st.done 8 22 (hdep ⟨8, .guard⟩ (by simp) rfl) rfl; exact AnyOrder.step_value rfl ((AnyOrder.wanted_of rfl rfl eg).trans rfl) (.bool false) (by generalize a1.eval = ρ at ec ef e0 e1 ⊢; simp [execOp, ec, ef, e0, e1, IntWalk.i64_left, go_sem]) st.inv (Below.refl _ _) rfl)
      | 19, ho => (injection ho with ho; subst ho; have ec : ∀ v, a1.eval (.const v) = v := fun _ => rfl; have ef : ∀ f, a1.eval (.func f) = .func (.func f) #[] #[] := fun _ => rfl; have e0 : a1.eval (.tmp 22) = .bool false := st.done 8 22 (hdep ⟨8, .data⟩ (by simp) rfl) rfl; have e1 : a1.eval (.tmp 32) = .bool false := st.done 18 32 (hdep ⟨18, .data⟩ (by simp) rfl) rfl; exact AnyOrder.step_value rfl (AnyOrder.wanted_none rfl) (.bool false) (by generalize a1.eval = ρ at ec ef e0 e1 ⊢; simp [execOp, ec, ef, e0, e1, IntWalk.i64_left, go_sem]) st.inv (Below.refl _ _) rfl)
      | n + 20, ho => exact absurd hin (by omega)
    · intro w2 hJ
      simp only [AnyOrder.finK, List.take_succ_cons, List.take_zero, List.drop_succ_cons, List.drop_zero, Act.put, List.setIfInBounds_toArray, List.set_cons_zero, List.set_cons_succ]
      replace HS := Lib.hid (HS.out.step hJ)
      clear hJ CN CK CZ
      have k0 := HS.out.bt.get0
      have k1 := HS.out.bt.get1
      go_wp2_with (first | ((with_reducible apply wpList_load_cat (h := HS.out.cf)); exact rfl; exact rfl; exact rfl) | ((with_reducible apply wpList_load_bt (h := HS.out.bt)); exact rfl; exact rfl; exact rfl))
      refine (CR.out _).mono ?_
      rintro e w3 ⟨rfl, hb⟩
      replace HS := Lib.hid (HS.out.step hb)
      clear hb CR
      go_wp2_with (first | ((with_reducible apply wpList_load_cat (h := HS.out.cf)); exact rfl; exact rfl; exact rfl) | ((with_reducible apply wpList_load_bt (h := HS.out.bt)); exact rfl; exact rfl; exact rfl))
      refine (CT.out _).mono ?_
      rintro e w4 ⟨rfl, hb⟩
      replace HS := Lib.hid (HS.out.step hb)
      clear hb CT
      go_upto_region 7 with (refine wpList_store_row rfl 26 _ _ rfl _ (b : Bt).cells rfl rfl 26 _ (heap_alloc_new _ _) (sizeBt _) rfl (Bt.one _) ?_; rw [World.setRow_alloc_new])
      have HD := Lib.hid (HS.out.new b).2
      replace HS := Lib.hid (HS.out.new b).1
      obtain ⟨V, hV⟩ : ∃ V, w4.alloc (.cells (Bt.cells b) 26) = V := ⟨_, rfl⟩
      rw [hV] at HD HS ⊢; clear hV
      generalize w4.heap.size = s at *
      go_upto_region 8 with (first | ((with_reducible apply wpList_load_bt (h := HS.out.bt)); exact rfl; exact rfl; exact rfl) | (refine wpList_store_row rfl 26 _ _ rfl _ (b : Bt).cells rfl rfl 26 _ (heap_alloc_new _ _) (sizeBt _) rfl (Bt.one _) ?_; rw [World.setRow_alloc_new]))
      replace HS := Lib.hid (HS.out.ex HD.out b)
      clear HD
      obtain ⟨V1, hV⟩ : ∃ V1, V.alloc (.cells (Bt.cells b) 26) = V1 := ⟨_, rfl⟩
      rw [hV] at HS ⊢; clear hV
      generalize V.heap.size = u at *
      have k0 := HS.out.bt.get0
      have k1 := HS.out.bt.get1
      go_wp2_with (first | ((with_reducible apply wpList_load_cat (h := HS.out.cf)); exact rfl; exact rfl; exact rfl) | ((with_reducible apply wpList_load_bt (h := HS.out.bt)); exact rfl; exact rfl; exact rfl))
      refine (CG.out _).mono ?_
      rintro e w5 ⟨rfl, hb⟩
      replace HS := Lib.hid (HS.out.step hb)
      clear hb CG
      have k0 := HS.out.bt.get0
      have k1 := HS.out.bt.get1
      go_wp2_with (first | ((with_reducible apply wpList_load_cat (h := HS.out.cf)); exact rfl; exact rfl; exact rfl) | ((with_reducible apply wpList_load_bt (h := HS.out.bt)); exact rfl; exact rfl; exact rfl))
      refine (CL.out _).mono ?_
      rintro e w6 ⟨rfl, hb⟩
      replace HS := Lib.hid (HS.out.step hb)
      clear hb CL
      go_wp2_with (first | ((with_reducible apply wpList_load_bt (h := HS.out.dt)); exact rfl; exact rfl; exact rfl) | ((with_reducible apply wpList_load_bt (h := HS.out.wt)); exact rfl; exact rfl; exact rfl) | ((with_reducible apply wpList_load_cat (h := HS.out.cf)); exact rfl; exact rfl; exact rfl) | ((with_reducible apply wpList_load_bt (h := HS.out.bt)); exact rfl; exact rfl; exact rfl) | ((with_reducible apply wpList_eql_bt (c := b) (d := b) (b := true)); exact rfl; exact rfl; exact rfl; exact rfl; exact Bt.beq_self _))
      refine (CU.out _).mono ?_
      rintro e w7 ⟨rfl, hb⟩
      replace HS := Lib.hid (HS.out.step hb)
      clear hb CU
      go_wp2_with fail
      go_ret
      exact ⟨rfl, HS.out.bel⟩
end Go.Proofs.Ytepfgheliddpmaa
