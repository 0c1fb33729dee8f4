/- Whether there is such a floor, or car. -/
import Derived.Test.YtlmdhkaplemjpaaGreatCheck
import Derived.Test.YtlmdhkaplemjpaaGreatOrder2
namespace Go.Proofs.YtlmdhkaplemjpaaGreat
open Go.RowKit Go.Lib
set_option linter.unusedVariables false
set_option linter.unusedSimpArgs false

theorem ok_at {c : Cfg} (h : okc c = true) {k : Nat} (hk : k < 17) : lo k ≤ c.get k ∧ c.get k ≤ hi k := okc_spec.1 h k hk
theorem wrap_in {x : Int} (h1 : -9000000000 ≤ x) (h2 : x ≤ 9000000000) : wrap64 x = x := IntWalk.wrap64_in _ ⟨by omega, by omega⟩
theorem ret_bool {a b : Bool} (h : a = b) : Ending.returned (.bool a) = .returned (.bool b) := by rw [h]
/-- the load of a row, where the operation has a guard that holds -/
theorem wpList_load_rowG {P : Program} {ops : Array Oper} {rest : List Oper} {o : Oper} {a : Act} {w : World} {Q : Exit → Act → World → Prop} (hgd : Region.wanted o (yielded ops a.tmps) = true) (ty : TypeId) (x : Operand) (ho : o.op = .load ty x)
    (g : Nat) (hx : a.eval x = .pointer (some ⟨g, 0, none⟩)) (t : TypeId) (cs : Array Value) (fr : Nat × Nat) (d : TypeDesc) (hg : w.heap[g]? = some (.cells cs t fr))
    (hu : P.underlying ty = some d) (hd : (match d with | .struct _ | .array _ _ => true | _ => false) = true) (hi : (P.info? ty).map (·.size) = some cs.size)
    (h : wpList P ops Q rest (a.put o.dst (.agg cs)) w) : wpList P ops Q (o :: rest) a w := by
  unfold wpList
  rw [if_pos hgd]
  exact .inl (wp_load_row ty x ho g hx t cs fr d hg hu hd hi h)
theorem AnyOrder.run_move {ρ : Operand → Value} {w : World} {x : Tmp} {v : Value} {d : Option Tmp} {t : TypeId} {pos : String} {af : Array Edge} {gd : Option (Nat × Bool)} (e : ρ (.tmp x) = v) :
    (execOp ρ { dst := d, op := Op.move (.tmp x), type := t, pos := pos, after := af, guard := gd }).run Tryz.prog w = .ok (.value v) w := by
  simp [execOp, e, go_sem]
theorem run_load_cfg {ρ : Operand → Value} {w : World} {x : Tmp} {p : Nat} {c : Cfg} {d : Option Tmp} {t : TypeId} {pos : String} {af : Array Edge} {gd : Option (Nat × Bool)} (e : ρ (.tmp x) = ptr p 0) (h : CAt w p c) :
    (execOp ρ { dst := d, op := Op.load 24 (.tmp x), type := t, pos := pos, after := af, guard := gd }).run Tryz.prog w = .ok (.value c.V) w := by
  unfold execOp
  simp only [e, Instr.loadAt, Instr.sureAddr, Sem.run_bind, Sem.run_pure, Result.andThen_ok, CAt.load h]

/-- whether there is such a floor (k = 0) or car (k = 1) -/
def isB (c : Cfg) (k : Nat) (n : Int) : Bool := decide (1 ≤ n) && decide (n ≤ c.get k) && okc c
set_option maxRecDepth 100000 in
set_option maxHeartbeats 1000000 in
theorem floor_any (c : Cfg) (n : Int) (w : World) : Calls Tryz.prog 106 #[c.V, .int .i64 n] w fun e w' => e = .returned (.bool (isB c 0 n)) ∧ Below w.heap.size w w' := by
  have HA := Lib.hid (CAt.new w c)
  have HB := Lib.hid (below_new w (.cells c.cells 24))
  have CK := Lib.hid (fun W => check_any c W)
  have kc := HA.out.get (k := 0) (by omega)
  by_cases h1 : 1 ≤ n
  · by_cases h2 : n ≤ c.get 0
    · have HE : Hid (chk c = 0 ∧ isB c 0 n = true ∨ chk c = 3 ∧ isB c 0 n = false) := Lib.hid (by
        cases h : okc c
        · exact .inr ⟨chk_no h, by simp [isB, h]⟩
        · exact .inl ⟨chk_ok h, by simp [isB, h, h1, h2]⟩)
      have d1 : decide (1 ≤ n) = true := by simpa using h1
      have d2 : decide (n ≤ c.get 0) = true := by simpa using h2
      generalize c.get 0 = y at *
      rcases HE.out with ⟨e1, e2⟩ | ⟨e1, e2⟩
      all_goals
        rw [e1] at CK
        have E2 := Lib.hid e2
        clear e1 e2 HE
        go_enter Tryz.func106, Tryz.ntmps106
        go_wp2_with (first | (refine wpList_load_row rfl 24 _ rfl _ rfl 24 c.cells (0, 0) _ HA.out Tryz.underlying24 rfl (size24 c) ?_) | (refine wpList_load_rowG rfl 24 _ rfl _ rfl 24 c.cells (0, 0) _ HA.out Tryz.underlying24 rfl (size24 c) ?_) | (refine (CK.out _).mono ?_; rintro e w1 ⟨rfl, hb⟩))
        go_ret
        exact ⟨ret_bool E2.out.symm, HB.out.trans (hb.mono HB.out.size)⟩
    · have d1 : decide (1 ≤ n) = true := by simpa using h1
      have d2 : decide (n ≤ c.get 0) = false := by simpa using h2
      have E2 : Hid (isB c 0 n = false) := Lib.hid (by unfold isB; rw [d2]; simp)
      generalize c.get 0 = y at *
      go_enter Tryz.func106, Tryz.ntmps106
      go_wp2_with fail
      go_ret
      exact ⟨ret_bool E2.out.symm, HB.out⟩
  · have d1 : decide (1 ≤ n) = false := by simpa using h1
    have E2 : Hid (isB c 0 n = false) := Lib.hid (by unfold isB; rw [d1]; simp)
    go_enter Tryz.func106, Tryz.ntmps106
    go_wp2_with fail
    go_ret
    exact ⟨ret_bool E2.out.symm, HB.out⟩
set_option maxRecDepth 100000 in
set_option maxHeartbeats 1000000 in
theorem car_any (c : Cfg) (n : Int) (w : World) : Calls Tryz.prog 107 #[c.V, .int .i64 n] w fun e w' => e = .returned (.bool (isB c 1 n)) ∧ Below w.heap.size w w' := by
  have HA := Lib.hid (CAt.new w c)
  have HB := Lib.hid (below_new w (.cells c.cells 24))
  have CK := Lib.hid (fun W => check_any c W)
  have kc := HA.out.get (k := 1) (by omega)
  by_cases h1 : 1 ≤ n
  · by_cases h2 : n ≤ c.get 1
    · have HE : Hid (chk c = 0 ∧ isB c 1 n = true ∨ chk c = 3 ∧ isB c 1 n = false) := Lib.hid (by
        cases h : okc c
        · exact .inr ⟨chk_no h, by simp [isB, h]⟩
        · exact .inl ⟨chk_ok h, by simp [isB, h, h1, h2]⟩)
      have d1 : decide (1 ≤ n) = true := by simpa using h1
      have d2 : decide (n ≤ c.get 1) = true := by simpa using h2
      generalize c.get 1 = y at *
      rcases HE.out with ⟨e1, e2⟩ | ⟨e1, e2⟩
      all_goals
        rw [e1] at CK
        have E2 := Lib.hid e2
        clear e1 e2 HE
        go_enter Tryz.func107, Tryz.ntmps107
        go_wp2_with (first | (refine wpList_load_row rfl 24 _ rfl _ rfl 24 c.cells (0, 0) _ HA.out Tryz.underlying24 rfl (size24 c) ?_) | (refine wpList_load_rowG rfl 24 _ rfl _ rfl 24 c.cells (0, 0) _ HA.out Tryz.underlying24 rfl (size24 c) ?_) | (refine (CK.out _).mono ?_; rintro e w1 ⟨rfl, hb⟩))
        go_ret
        exact ⟨ret_bool E2.out.symm, HB.out.trans (hb.mono HB.out.size)⟩
    · have d1 : decide (1 ≤ n) = true := by simpa using h1
      have d2 : decide (n ≤ c.get 1) = false := by simpa using h2
      have E2 : Hid (isB c 1 n = false) := Lib.hid (by unfold isB; rw [d2]; simp)
      generalize c.get 1 = y at *
      go_enter Tryz.func107, Tryz.ntmps107
      go_wp2_with fail
      go_ret
      exact ⟨ret_bool E2.out.symm, HB.out⟩
  · have d1 : decide (1 ≤ n) = false := by simpa using h1
    have E2 : Hid (isB c 1 n = false) := Lib.hid (by unfold isB; rw [d1]; simp)
    go_enter Tryz.func107, Tryz.ntmps107
    go_wp2_with fail
    go_ret
    exact ⟨ret_bool E2.out.symm, HB.out⟩
end Go.Proofs.YtlmdhkaplemjpaaGreat
