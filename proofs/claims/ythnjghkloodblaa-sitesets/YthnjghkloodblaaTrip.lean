/- The round trip and the bounds. -/
import Derived.Test.YthnjghkloodblaaCheck
import Derived.Test.YthnjghkloodblaaOrder2
namespace Go.Proofs.Ythnjghkloodblaa
open Go.RowKit Go.Lib
set_option linter.unusedVariables false
set_option linter.unusedSimpArgs false

theorem ok_at {c : Cfg} (h : okc c = true) {k : Nat} (hk : k < 17) : lo k ≤ c.get k ∧ c.get k ≤ hi k := okc_spec.1 h k hk
def trp (c : Cfg) : Int := if okc c = true then 2 * c.get 0 * (c.get 15 + c.get 16 + 3) else 0
def rid (c : Cfg) : Int := 3 * (c.get 3 + 1) * trp c
def ans (c : Cfg) : Int := if okc c = true then (c.get 10 + 1) * (2 * c.get 13 + 12) + c.get 11 else 0
theorem wrap_in {x : Int} (h1 : -9000000000 ≤ x) (h2 : x ≤ 9000000000) : wrap64 x = x := IntWalk.wrap64_in _ ⟨by omega, by omega⟩
theorem mul_in {a b A B : Int} (h0 : 0 ≤ a) (h1 : a ≤ A) (h2 : 0 ≤ b) (h3 : b ≤ B) : 0 ≤ a * b ∧ a * b ≤ A * B := ⟨Int.mul_nonneg h0 h2, Int.mul_le_mul h1 h3 h2 (Int.le_trans h0 h1)⟩
theorem trp_in {c : Cfg} (h : okc c = true) : 0 ≤ trp c ∧ trp c ≤ 704 := by
  have e : trp c = 2 * c.get 0 * (c.get 15 + c.get 16 + 3) := if_pos h
  have h0 : (2 : Int) ≤ c.get 0 ∧ c.get 0 ≤ 32 := ok_at h (by decide); have h1 : (1 : Int) ≤ c.get 15 ∧ c.get 15 ≤ 4 := ok_at h (by decide); have h2 : (0 : Int) ≤ c.get 16 ∧ c.get 16 ≤ 4 := ok_at h (by decide)
  have := mul_in (a := 2 * c.get 0) (b := c.get 15 + c.get 16 + 3) (A := 64) (B := 11) (by omega) (by omega) (by omega) (by omega)
  omega
theorem trp_wrap {c : Cfg} (h : okc c = true) : wrap64 (wrap64 (2 * c.get 0) * wrap64 (wrap64 (c.get 15 + c.get 16) + 3)) = trp c := by
  have e : trp c = 2 * c.get 0 * (c.get 15 + c.get 16 + 3) := if_pos h
  have h0 : (2 : Int) ≤ c.get 0 ∧ c.get 0 ≤ 32 := ok_at h (by decide); have h1 : (1 : Int) ≤ c.get 15 ∧ c.get 15 ≤ 4 := ok_at h (by decide); have h2 : (0 : Int) ≤ c.get 16 ∧ c.get 16 ≤ 4 := ok_at h (by decide)
  have := trp_in h
  rw [wrap_in (x := 2 * c.get 0) (by omega) (by omega), wrap_in (x := c.get 15 + c.get 16) (by omega) (by omega), wrap_in (x := c.get 15 + c.get 16 + 3) (by omega) (by omega), wrap_in (by omega) (by omega), e]
theorem rid_in {c : Cfg} (h : okc c = true) : 0 ≤ rid c ∧ rid c ≤ 137280 := by
  have h3 : (1 : Int) ≤ c.get 3 ∧ c.get 3 ≤ 64 := ok_at h (by decide)
  have := trp_in h
  have := mul_in (a := 3 * (c.get 3 + 1)) (b := trp c) (A := 195) (B := 704) (by omega) (by omega) (by omega) (by omega)
  unfold rid
  omega
theorem rid_wrap (c : Cfg) : wrap64 (wrap64 (3 * wrap64 (c.get 3 + 1)) * trp c) = rid c := by
  cases h : okc c
  · have e : trp c = 0 := if_neg (by rw [h]; decide)
    unfold rid
    rw [e, Int.mul_zero, Int.mul_zero]; exact wrap_in (by omega) (by omega)
  · have h3 : (1 : Int) ≤ c.get 3 ∧ c.get 3 ≤ 64 := ok_at h (by decide)
    have := rid_in h
    rw [wrap_in (x := c.get 3 + 1) (by omega) (by omega), wrap_in (x := 3 * (c.get 3 + 1)) (by omega) (by omega)]
    exact wrap_in (x := rid c) (by omega) (by omega)
theorem ans_in {c : Cfg} (h : okc c = true) : 0 < ans c ∧ ans c ≤ 492 := by
  have e : ans c = (c.get 10 + 1) * (2 * c.get 13 + 12) + c.get 11 := if_pos h
  have h0 : (1 : Int) ≤ c.get 10 ∧ c.get 10 ≤ 16 := ok_at h (by decide); have h1 : (0 : Int) ≤ c.get 13 ∧ c.get 13 ≤ 8 := ok_at h (by decide); have h2 : (1 : Int) ≤ c.get 11 ∧ c.get 11 ≤ 16 := ok_at h (by decide)
  have := mul_in (a := c.get 10 + 1) (b := 2 * c.get 13 + 12) (A := 17) (B := 28) (by omega) (by omega) (by omega) (by omega)
  omega
theorem ans_wrap {c : Cfg} (h : okc c = true) : wrap64 (wrap64 (wrap64 (c.get 10 + 1) * wrap64 (wrap64 (2 * c.get 13) + 12)) + c.get 11) = ans c := by
  have e : ans c = (c.get 10 + 1) * (2 * c.get 13 + 12) + c.get 11 := if_pos h
  have h0 : (1 : Int) ≤ c.get 10 ∧ c.get 10 ≤ 16 := ok_at h (by decide); have h1 : (0 : Int) ≤ c.get 13 ∧ c.get 13 ≤ 8 := ok_at h (by decide); have h2 : (1 : Int) ≤ c.get 11 ∧ c.get 11 ≤ 16 := ok_at h (by decide)
  have h3 := mul_in (a := c.get 10 + 1) (b := 2 * c.get 13 + 12) (A := 17) (B := 28) (by omega) (by omega) (by omega) (by omega)
  rw [wrap_in (x := c.get 10 + 1) (by omega) (by omega), wrap_in (x := 2 * c.get 13) (by omega) (by omega), wrap_in (x := 2 * c.get 13 + 12) (by omega) (by omega), wrap_in (x := (c.get 10 + 1) * (2 * c.get 13 + 12)) (by omega) (by omega), e]
  exact wrap_in (by omega) (by omega)

theorem ret_bool {a b : Bool} (h : a = b) : Ending.returned (.bool a) = .returned (.bool b) := by rw [h]
/-- the load of a row, where the operation has a guard that holds -/
theorem wpList_load_rowG {P : Program} {ops : Array Oper} {rest : List Oper} {o : Oper} {a : Act} {w : World} {Q : Exit → Act → World → Prop} (hgd : Region.wanted o (yielded ops a.tmps) = true) (ty : TypeId) (x : Operand) (ho : o.op = .load ty x)
    (g : Nat) (hx : a.eval x = .pointer (some ⟨g, 0, none⟩)) (t : TypeId) (cs : Array Value) (fr : Nat × Nat) (d : TypeDesc) (hg : w.heap[g]? = some (.cells cs t fr))
    (hu : P.underlying ty = some d) (hd : (match d with | .struct _ | .array _ _ => true | _ => false) = true) (hi : (P.info? ty).map (·.size) = some cs.size)
    (h : wpList P ops Q rest (a.put o.dst (.agg cs)) w) : wpList P ops Q (o :: rest) a w := by
  unfold wpList
  rw [if_pos hgd]
  exact .inl (wp_load_row ty x ho g hx t cs fr d hg hu hd hi h)
theorem AnyOrder.run_move {ρ : Operand → Value} {w : World} {x : Tmp} {v : Value} {d : Option Tmp} {t : TypeId} {pos : String} {af : Array Edge} {gd : Option (Nat × Bool)} (e : ρ (.tmp x) = v) :
    (execOp ρ { dst := d, op := Op.move (.tmp x), type := t, pos := pos, after := af, guard := gd }).run Try.prog w = .ok (.value v) w := by
  simp [execOp, e, go_sem]
theorem run_load_cfg {ρ : Operand → Value} {w : World} {x : Tmp} {p : Nat} {c : Cfg} {d : Option Tmp} {t : TypeId} {pos : String} {af : Array Edge} {gd : Option (Nat × Bool)} (e : ρ (.tmp x) = ptr p 0) (h : CAt w p c) :
    (execOp ρ { dst := d, op := Op.load 24 (.tmp x), type := t, pos := pos, after := af, guard := gd }).run Try.prog w = .ok (.value c.V) w := by
  unfold execOp
  simp only [e, Instr.loadAt, Instr.sureAddr, Sem.run_bind, Sem.run_pure, Result.andThen_ok, CAt.load h]

set_option maxRecDepth 100000 in
set_option maxHeartbeats 1000000 in
theorem trip_any (c : Cfg) (w : World) : Calls Try.prog 10 #[c.V] w fun e w' => e = .returned (.int .i64 (trp c)) ∧ Below w.heap.size w w' := by
  have HA := Lib.hid (CAt.new w c)
  have HB := Lib.hid (below_new w (.cells c.cells 24))
  have CK := Lib.hid (fun W => check_any c W)
  cases h : okc c
  · rw [chk_no h] at CK
    have HR : Hid (trp c = 0) := Lib.hid (if_neg (by rw [h]; decide))
    clear h
    go_enter Try.func10, Try.ntmps10
    go_wp2_with (first | (refine wpList_load_row rfl 24 _ rfl _ rfl 24 c.cells (0, 0) _ HA.out Try.underlying24 rfl (size24 c) ?_) | (refine (CK.out _).mono ?_; rintro e w1 ⟨rfl, hb⟩))
    go_ret
    exact ⟨ret_int HR.out.symm, HB.out.trans (hb.mono HB.out.size)⟩
  · rw [chk_ok h] at CK
    have HR := Lib.hid (trp_wrap h)
    clear h
    go_enter Try.func10, Try.ntmps10
    go_wp2_with (first | (refine wpList_load_row rfl 24 _ rfl _ rfl 24 c.cells (0, 0) _ HA.out Try.underlying24 rfl (size24 c) ?_) | (refine (CK.out _).mono ?_; rintro e w1 ⟨rfl, hb⟩; have k0 := (HA.out.step hb).get (k := 0) (by omega); have k15 := (HA.out.step hb).get (k := 15) (by omega); have k16 := (HA.out.step hb).get (k := 16) (by omega)))
    go_ret
    exact ⟨ret_int HR.out, HB.out.trans (hb.mono HB.out.size)⟩
set_option maxRecDepth 100000 in
set_option maxHeartbeats 1000000 in
theorem answer_any (c : Cfg) (w : World) : Calls Try.prog 13 #[c.V] w fun e w' => e = .returned (.int .i64 (ans c)) ∧ Below w.heap.size w w' := by
  have HA := Lib.hid (CAt.new w c)
  have HB := Lib.hid (below_new w (.cells c.cells 24))
  have CK := Lib.hid (fun W => check_any c W)
  cases h : okc c
  · rw [chk_no h] at CK
    have HR : Hid (ans c = 0) := Lib.hid (if_neg (by rw [h]; decide))
    clear h
    go_enter Try.func13, Try.ntmps13
    go_wp2_with (first | (refine wpList_load_row rfl 24 _ rfl _ rfl 24 c.cells (0, 0) _ HA.out Try.underlying24 rfl (size24 c) ?_) | (refine (CK.out _).mono ?_; rintro e w1 ⟨rfl, hb⟩))
    go_ret
    exact ⟨ret_int HR.out.symm, HB.out.trans (hb.mono HB.out.size)⟩
  · rw [chk_ok h] at CK
    have HR := Lib.hid (ans_wrap h)
    clear h
    go_enter Try.func13, Try.ntmps13
    go_wp2_with (first | (refine wpList_load_row rfl 24 _ rfl _ rfl 24 c.cells (0, 0) _ HA.out Try.underlying24 rfl (size24 c) ?_) | (refine (CK.out _).mono ?_; rintro e w1 ⟨rfl, hb⟩; have k0 := (HA.out.step hb).get (k := 10) (by omega); have k15 := (HA.out.step hb).get (k := 13) (by omega); have k16 := (HA.out.step hb).get (k := 11) (by omega)))
    go_ret
    exact ⟨ret_int HR.out, HB.out.trans (hb.mono HB.out.size)⟩
set_option maxRecDepth 100000 in
set_option maxHeartbeats 1000000 in
theorem ride_any (c : Cfg) (w : World) : Calls Try.prog 12 #[c.V] w fun e w' => e = .returned (.int .i64 (rid c)) ∧ Below w.heap.size w w' := by
  have HA := Lib.hid (CAt.new w c)
  have HB := Lib.hid (below_new w (.cells c.cells 24))
  have CK := Lib.hid (fun W => trip_any c W)
  have HR := Lib.hid (rid_wrap c)
  go_enter Try.func12, Try.ntmps12
  go_wp2_with fail
  obtain ⟨W, hW⟩ : ∃ W, w.alloc (.cells c.cells 24) = W := ⟨_, rfl⟩
  rw [hW] at HA HB ⊢; clear hW
  refine AnyOrder.region_kinds2 7 [.eq (ptr w.heap.size 3), .eq (.int .i64 (c.get 3)), .eq (.int .i64 (wrap64 (c.get 3 + 1))), .eq (.int .i64 (wrap64 (3 * wrap64 (c.get 3 + 1)))), .eq (c.V), .eq (.int .i64 (trp c)), .eq (.int .i64 (rid c))] (fun wx => Below W.heap.size W wx) (by kernel_rfl) (by kernel_rfl) rfl (by kernel_rfl) (below_drewN (Below.refl _ _) 1) (fun p _ _ hp => by simp at hp) ?_ ?_
  · intro i o listed a1 w2 hin ho st hl hdep
    match i, ho with
    | 0, ho => (injection ho with ho; subst ho; have ec : ∀ v, a1.eval (.const v) = v := fun _ => rfl; have ef : ∀ f, a1.eval (.func f) = .func (.func f) #[] #[] := fun _ => rfl; have e0 : a1.eval (.tmp 1) = ptr w.heap.size 0 := st.old hl 1 (by kernel_rfl); exact AnyOrder.step_value rfl (AnyOrder.wanted_none rfl) (ptr w.heap.size 3) (by generalize a1.eval = ρ at ec ef e0 ⊢; simp [execOp, ec, ef, e0, IntWalk.i64_left, go_sem]) st.inv (Below.refl _ _) rfl)
    | 1, ho => (injection ho with ho; subst ho; have ec : ∀ v, a1.eval (.const v) = v := fun _ => rfl; have ef : ∀ f, a1.eval (.func f) = .func (.func f) #[] #[] := fun _ => rfl; have e0 : a1.eval (.tmp 3) = ptr w.heap.size 3 := st.done 0 3 (hdep ⟨0, .data⟩ (by simp) rfl) rfl; exact AnyOrder.step_value rfl (AnyOrder.wanted_none rfl) (.int .i64 (c.get 3)) (by generalize a1.eval = ρ at ec ef e0 ⊢; simp [execOp, ec, ef, e0, IntWalk.i64_left, (HA.out.step st.inv).get (k := 3) (by omega), go_sem]) st.inv (Below.refl _ _) rfl)
    | 2, ho => (injection ho with ho; subst ho; have ec : ∀ v, a1.eval (.const v) = v := fun _ => rfl; have ef : ∀ f, a1.eval (.func f) = .func (.func f) #[] #[] := fun _ => rfl; have e0 : a1.eval (.tmp 4) = .int .i64 (c.get 3) := st.done 1 4 (hdep ⟨1, .data⟩ (by simp) rfl) rfl; exact AnyOrder.step_value rfl (AnyOrder.wanted_none rfl) (.int .i64 (wrap64 (c.get 3 + 1))) (by generalize a1.eval = ρ at ec ef e0 ⊢; simp [execOp, ec, ef, e0, IntWalk.i64_left, go_sem]) st.inv (Below.refl _ _) rfl)
    | 3, ho => (injection ho with ho; subst ho; have ec : ∀ v, a1.eval (.const v) = v := fun _ => rfl; have ef : ∀ f, a1.eval (.func f) = .func (.func f) #[] #[] := fun _ => rfl; have e0 : a1.eval (.tmp 5) = .int .i64 (wrap64 (c.get 3 + 1)) := st.done 2 5 (hdep ⟨2, .data⟩ (by simp) rfl) rfl; exact AnyOrder.step_value rfl (AnyOrder.wanted_none rfl) (.int .i64 (wrap64 (3 * wrap64 (c.get 3 + 1)))) (by generalize a1.eval = ρ at ec ef e0 ⊢; simp [execOp, ec, ef, e0, IntWalk.i64_left, go_sem]) st.inv (Below.refl _ _) rfl)
    | 4, ho => (injection ho with ho; subst ho; have ec : ∀ v, a1.eval (.const v) = v := fun _ => rfl; have ef : ∀ f, a1.eval (.func f) = .func (.func f) #[] #[] := fun _ => rfl; have e0 : a1.eval (.tmp 1) = ptr w.heap.size 0 := st.old hl 1 (by kernel_rfl); exact AnyOrder.step_value rfl (AnyOrder.wanted_none rfl) (c.V) (run_load_cfg e0 (HA.out.step st.inv)) st.inv (Below.refl _ _) rfl)
    | 5, ho => (injection ho with ho; subst ho; have ec : ∀ v, a1.eval (.const v) = v := fun _ => rfl; have ef : ∀ f, a1.eval (.func f) = .func (.func f) #[] #[] := fun _ => rfl; have e0 : a1.eval (.tmp 7) = c.V := st.done 4 7 (hdep ⟨4, .data⟩ (by simp) rfl) rfl; exact AnyOrder.step_call rfl (AnyOrder.wanted_none rfl) 10 #[c.V] (by generalize a1.eval = ρ at ec ef e0 ⊢; simp [execOp, ec, ef, e0, go_sem]) ((CK.out _).mono (fun e w3 h => by obtain ⟨rfl, hb⟩ := h; exact ⟨_, rfl, st.inv.trans (hb.mono st.inv.size), hb, rfl⟩)))
    | 6, ho => (injection ho with ho; subst ho; have ec : ∀ v, a1.eval (.const v) = v := fun _ => rfl; have ef : ∀ f, a1.eval (.func f) = .func (.func f) #[] #[] := fun _ => rfl; have e0 : a1.eval (.tmp 6) = .int .i64 (wrap64 (3 * wrap64 (c.get 3 + 1))) := st.done 3 6 (hdep ⟨3, .data⟩ (by simp) rfl) rfl; have e1 : a1.eval (.tmp 8) = .int .i64 (trp c) := st.done 5 8 (hdep ⟨5, .data⟩ (by simp) rfl) rfl; exact AnyOrder.step_value rfl (AnyOrder.wanted_none rfl) (.int .i64 (rid c)) (by generalize a1.eval = ρ at ec ef e0 e1 ⊢; simp [execOp, ec, ef, e0, e1, IntWalk.i64_left, HR.out, go_sem]) st.inv (Below.refl _ _) rfl)
    | n + 7, ho => exact absurd hin (by omega)
  · intro w2 hJ
    simp only [AnyOrder.finK, List.take_succ_cons, List.take_zero, List.drop_succ_cons, List.drop_zero, Act.put, List.setIfInBounds_toArray, List.set_cons_zero, List.set_cons_succ]
    go_wp2_with fail
    go_ret
    exact ⟨rfl, HB.out.trans (hJ.mono HB.out.size)⟩
/-- whether there is such a floor (k = 0) or car (k = 1) -/
def isB (c : Cfg) (k : Nat) (n : Int) : Bool := decide (1 ≤ n) && decide (n ≤ c.get k) && okc c
set_option maxRecDepth 100000 in
set_option maxHeartbeats 1000000 in
theorem floor_any (c : Cfg) (n : Int) (w : World) : Calls Try.prog 14 #[c.V, .int .i64 n] w fun e w' => e = .returned (.bool (isB c 0 n)) ∧ Below w.heap.size w w' := by
  have HA := Lib.hid (CAt.new w c)
  have HB := Lib.hid (below_new w (.cells c.cells 24))
  have CK := Lib.hid (fun W => check_any c W)
  have kc := HA.out.get (k := 0) (by omega)
  by_cases h1 : 1 ≤ n
  · by_cases h2 : n ≤ c.get 0
    · have HE : Hid (chk c = 0 ∧ isB c 0 n = true ∨ chk c = 3 ∧ isB c 0 n = false) := Lib.hid (by
        cases h : okc c
        · exact .inr ⟨chk_no h, by simp [isB, h]⟩
        · exact .inl ⟨chk_ok h, by simp [isB, h, h1, h2]⟩)
      have d1 : decide (1 ≤ n) = true := by simpa using h1
      have d2 : decide (n ≤ c.get 0) = true := by simpa using h2
      generalize c.get 0 = y at *
      rcases HE.out with ⟨e1, e2⟩ | ⟨e1, e2⟩
      all_goals
        rw [e1] at CK
        have E2 := Lib.hid e2
        clear e1 e2 HE
        go_enter Try.func14, Try.ntmps14
        go_wp2_with (first | (refine wpList_load_row rfl 24 _ rfl _ rfl 24 c.cells (0, 0) _ HA.out Try.underlying24 rfl (size24 c) ?_) | (refine wpList_load_rowG rfl 24 _ rfl _ rfl 24 c.cells (0, 0) _ HA.out Try.underlying24 rfl (size24 c) ?_) | (refine (CK.out _).mono ?_; rintro e w1 ⟨rfl, hb⟩))
        go_ret
        exact ⟨ret_bool E2.out.symm, HB.out.trans (hb.mono HB.out.size)⟩
    · have d1 : decide (1 ≤ n) = true := by simpa using h1
      have d2 : decide (n ≤ c.get 0) = false := by simpa using h2
      have E2 : Hid (isB c 0 n = false) := Lib.hid (by unfold isB; rw [d2]; simp)
      generalize c.get 0 = y at *
      go_enter Try.func14, Try.ntmps14
      go_wp2_with fail
      go_ret
      exact ⟨ret_bool E2.out.symm, HB.out⟩
  · have d1 : decide (1 ≤ n) = false := by simpa using h1
    have E2 : Hid (isB c 0 n = false) := Lib.hid (by unfold isB; rw [d1]; simp)
    go_enter Try.func14, Try.ntmps14
    go_wp2_with fail
    go_ret
    exact ⟨ret_bool E2.out.symm, HB.out⟩
set_option maxRecDepth 100000 in
set_option maxHeartbeats 1000000 in
theorem car_any (c : Cfg) (n : Int) (w : World) : Calls Try.prog 15 #[c.V, .int .i64 n] w fun e w' => e = .returned (.bool (isB c 1 n)) ∧ Below w.heap.size w w' := by
  have HA := Lib.hid (CAt.new w c)
  have HB := Lib.hid (below_new w (.cells c.cells 24))
  have CK := Lib.hid (fun W => check_any c W)
  have kc := HA.out.get (k := 1) (by omega)
  by_cases h1 : 1 ≤ n
  · by_cases h2 : n ≤ c.get 1
    · have HE : Hid (chk c = 0 ∧ isB c 1 n = true ∨ chk c = 3 ∧ isB c 1 n = false) := Lib.hid (by
        cases h : okc c
        · exact .inr ⟨chk_no h, by simp [isB, h]⟩
        · exact .inl ⟨chk_ok h, by simp [isB, h, h1, h2]⟩)
      have d1 : decide (1 ≤ n) = true := by simpa using h1
      have d2 : decide (n ≤ c.get 1) = true := by simpa using h2
      generalize c.get 1 = y at *
      rcases HE.out with ⟨e1, e2⟩ | ⟨e1, e2⟩
      all_goals
        rw [e1] at CK
        have E2 := Lib.hid e2
        clear e1 e2 HE
        go_enter Try.func15, Try.ntmps15
        go_wp2_with (first | (refine wpList_load_row rfl 24 _ rfl _ rfl 24 c.cells (0, 0) _ HA.out Try.underlying24 rfl (size24 c) ?_) | (refine wpList_load_rowG rfl 24 _ rfl _ rfl 24 c.cells (0, 0) _ HA.out Try.underlying24 rfl (size24 c) ?_) | (refine (CK.out _).mono ?_; rintro e w1 ⟨rfl, hb⟩))
        go_ret
        exact ⟨ret_bool E2.out.symm, HB.out.trans (hb.mono HB.out.size)⟩
    · have d1 : decide (1 ≤ n) = true := by simpa using h1
      have d2 : decide (n ≤ c.get 1) = false := by simpa using h2
      have E2 : Hid (isB c 1 n = false) := Lib.hid (by unfold isB; rw [d2]; simp)
      generalize c.get 1 = y at *
      go_enter Try.func15, Try.ntmps15
      go_wp2_with fail
      go_ret
      exact ⟨ret_bool E2.out.symm, HB.out⟩
  · have d1 : decide (1 ≤ n) = false := by simpa using h1
    have E2 : Hid (isB c 1 n = false) := Lib.hid (by unfold isB; rw [d1]; simp)
    go_enter Try.func15, Try.ntmps15
    go_wp2_with fail
    go_ret
    exact ⟨ret_bool E2.out.symm, HB.out⟩
end Go.Proofs.Ythnjghkloodblaa
