/- Whether there is such a floor, or car. -/
import Derived.Test.YtepfgheliddpmaaCheck
import Derived.Test.YtepfgheliddpmaaOrder2
namespace Go.Proofs.Ytepfgheliddpmaa
open Go.RowKit Go.Lib
set_option linter.unusedVariables false
set_option linter.unusedSimpArgs false

theorem ok_at {c : Cfg} (h : okc c = true) {k : Nat} (hk : k < 17) : lo k ≤ c.get k ∧ c.get k ≤ hi k := okc_spec.1 h k hk
theorem wrap_in {x : Int} (h1 : -9000000000 ≤ x) (h2 : x ≤ 9000000000) : wrap64 x = x := IntWalk.wrap64_in _ ⟨by omega, by omega⟩
theorem ret_bool {a b : Bool} (h : a = b) : Ending.returned (.bool a) = .returned (.bool b) := by rw [h]
/-- the load of a row, where the operation has a guard that holds -/
theorem wpList_load_rowG {P : Program} {ops : Array Oper} {rest : List Oper} {o : Oper} {a : Act} {w : World} {Q : Exit → Act → World → Prop} (hgd : Region.wanted o (yielded ops a.tmps) = true) (ty : TypeId) (x : Operand) (ho : o.op = .load ty x)
    (g : Nat) (hx : a.eval x = .pointer (some ⟨g, 0, none⟩)) (t : TypeId) (cs : Array Value) (fr : Nat × Nat) (d : TypeDesc) (hg : w.heap[g]? = some (.cells cs t fr))
    (hu : P.underlying ty = some d) (hd : (match d with | .struct _ | .array _ _ => true | _ => false) = true) (hi : (P.info? ty).map (·.size) = some cs.size)
    (h : wpList P ops Q rest (a.put o.dst (.agg cs)) w) : wpList P ops Q (o :: rest) a w := by
  unfold wpList
  rw [if_pos hgd]
  exact .inl (wp_load_row ty x ho g hx t cs fr d hg hu hd hi h)
theorem AnyOrder.run_move {ρ : Operand → Value} {w : World} {x : Tmp} {v : Value} {d : Option Tmp} {t : TypeId} {pos : String} {af : Array Edge} {gd : Option (Nat × Bool)} (e : ρ (.tmp x) = v) :
    (execOp ρ { dst := d, op := Op.move (.tmp x), type := t, pos := pos, after := af, guard := gd }).run Try.prog w = .ok (.value v) w := by
  simp [execOp, e, go_sem]
theorem run_load_cfg {ρ : Operand → Value} {w : World} {x : Tmp} {p : Nat} {c : Cfg} {d : Option Tmp} {t : TypeId} {pos : String} {af : Array Edge} {gd : Option (Nat × Bool)} (e : ρ (.tmp x) = ptr p 0) (h : CAt w p c) :
    (execOp ρ { dst := d, op := Op.load 24 (.tmp x), type := t, pos := pos, after := af, guard := gd }).run Try.prog w = .ok (.value c.V) w := by
  unfold execOp
  simp only [e, Instr.loadAt, Instr.sureAddr, Sem.run_bind, Sem.run_pure, Result.andThen_ok, CAt.load h]

/-- whether there is such a floor (k = 0) or car (k = 1) -/
def isB (c : Cfg) (k : Nat) (n : Int) : Bool := decide (1 ≤ n) && decide (n ≤ c.get k) && okc c
end Go.Proofs.Ytepfgheliddpmaa
