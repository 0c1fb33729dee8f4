/- The contract of Keep. -/
import Derived.Test.YtedogbkkophghaaShA
import Derived.Defers
import Derived.Recover
namespace Go.Proofs.Ytedogbkkophghaa.Sh
open Go.RowKit Go.Lib Plain
set_option linter.unusedVariables false

theorem run_eql_func {P : Program} {t : TypeId} {a b : Array TypeId} {c : Bool} (hp : P.underlying t = some (.func a b c)) (f : Fn) (x y : Array Value) (w : World) : (binOp .eql t (.func f x y) .nilFunc).run P w = .ok (.bool false) w := by
  have h : ∀ d : Nat, (Op.equalIn (d + 1) t (.func f x y) .nilFunc).run P w = .ok false w := fun d => by simp [Op.equalIn, run_underlying hp]
  simp only [binOp]
  simp [Op.equal, Op.maxDepth, h 9999]
theorem run_eql_nilFunc {P : Program} {t : TypeId} {a b : Array TypeId} {c : Bool} (hp : P.underlying t = some (.func a b c)) (w : World) : (binOp .eql t .nilFunc .nilFunc).run P w = .ok (.bool true) w := by
  have h : ∀ d : Nat, (Op.equalIn (d + 1) t .nilFunc .nilFunc).run P w = .ok true w := fun d => by simp [Op.equalIn, run_underlying hp]
  simp only [binOp]
  simp [Op.equal, Op.maxDepth, h 9999]
set_option maxHeartbeats 400000 in
theorem keep1_idle (a b : Nat) (w : World) :
    CallsD Try.prog 67 #[ptr a, ptr b] .returning w fun e u' w' => e = .returned (.tuple #[]) ∧ u' = .returning ∧ w' = w := by
  refine callsD_of_wpS Try.func67 rfl fun c₀ cs hu => ?_
  apply wpS_seq
  apply wpS_region
  simp [wpOpsS, go_sem, recoverD, hu, Try.ntmps67, Exit.thenS]
  refine wpS_cond (t := false) (by simp [Act.eval, Array.replicate]) ?_
  simp only [Bool.false_eq_true, if_false]
  refine wpS_of_wp (wp_skip ?_)
  cases c₀
  simp_all [bodyPostS, results, Try.results67]
section
variable {w w' : World} {v : Value} {l : List KV} {room : Nat}
/-- the world in which Keep goes on -/
abbrev delW (w : World) (o : Option Addr) (N room : Nat) : World :=
  (w.alloc (.cells #[.pointer o, .int .i64 (N : Int), .int .i64 (room : Int)] 29)).alloc (.cells #[.pointer none, .int .i64 0, .int .i64 0] 29)
/-- the function that is handed to Keep -/
def fkeep (g : Nat) : Value := .func (.func 40) #[] #[ptr g]
/-- within Keep: what was made behind the world in which all pairs were listed -/
structure KSt (w0 wx : World) (rv : Value) (qs : List Nat) : Prop where
  own : Own eP wx w0.heap.size rv qs
  bel : Below w0.heap.size w0 wx
theorem KSt.push {w0 wx : World} {rv : Value} {qs : List Nat} (h : KSt w0 wx rv qs) (p : Nat) (hn : qs.length ≤ 100000) (ty : TypeId) :
    ∃ rv' w', (Builtin.append_ #[104, 104] ty #[rv, .slice (some ⟨wx.heap.size, 0, none⟩) 1 1]).run Try.prog (wx.alloc (.cells #[ptr p] 91)) = .ok rv' w' ∧ KSt w0 w' rv' (qs ++ [p]) := by
  have hb : Below wx.heap.size wx (wx.alloc (.cells #[ptr p] 91)) := (Below.refl _ _).alloc (Nat.le_refl _) _
  have ho := h.own.below hb
  have hs := h.bel.size
  obtain ⟨rv', w', hr, o', c', l'⟩ := ho.push (x := p) (b := wx.heap.size) (off := 0) (cap := 1) (by simp; omega) (lit_cell (At.new wx 91 #[ptr p])) (by omega) ty
  exact ⟨rv', w', hr, o', (h.bel.trans (hb.mono hs)).trans (c'.below' ho (by simp; omega))⟩
theorem KSt.below {w0 wx wy : World} {rv : Value} {qs : List Nat} (h : KSt w0 wx rv qs) (hb : Below wx.heap.size wx wy) : KSt w0 wy rv qs := ⟨h.own.below hb, h.bel.trans (hb.mono h.bel.size)⟩
/-- those that are kept -/
def kept (q : E → Bool) (ps : List (Nat × KV)) : List (Nat × KV) := ps.filter (fun y => q y.2.2)
theorem kept_take {q : E → Bool} {ps : List (Nat × KV)} {j : Nat} {y : Nat × KV} (h : ps[j]? = some y) : kept q (ps.take (j + 1)) = if q y.2.2 = true then kept q (ps.take j) ++ [y] else kept q (ps.take j) := by
  unfold kept
  rw [List.take_add_one, h, List.filter_append]
  simp only [Option.toList]
  split
  · next e => simp [List.filter, e]
  · next e => simp [List.filter, e]
theorem kept_kvs (q : E → Bool) (ps : List (Nat × KV)) : (kept q ps).map (·.2) = (ps.map (·.2)).filter (fun x => q x.2) := by
  unfold kept
  rw [List.filter_map]
  rfl
theorem row_cell {w0 : World} {B : Nat} {sv : Value} {ps : List (Nat × KV)} {j : Nat} (h : Own eP w0 B sv (ps.map (·.1))) (hj : j < ps.length) :
    ∃ g cap, sv = .slice (some ⟨g, 0, none⟩) ps.length cap ∧ g < w0.heap.size ∧ w0.cell? ⟨g, j, none⟩ = some (ptr ps[j].1) := by
  have hx : ps[j]? = some ps[j] := List.getElem?_eq_getElem hj
  rcases h.form with ⟨rfl, h0⟩ | ⟨g, cap, rfl, hc, _, hlt⟩
  · simp at h0; subst h0; simp at hj
  · obtain ⟨b, off, e, hb, k⟩ := h.rd.cellP (i := j) (p := ps[j].1) (by rw [List.getElem?_map, hx]; rfl)
    injection e with e
    injection e with e1 e2 e3
    subst e1; subst e2
    rw [Nat.zero_add] at k
    exact ⟨g, cap, by rw [List.length_map], hlt, k⟩
theorem own_slice {E : El Nat} {w0 : World} {B : Nat} {sv : Value} {xs : List Nat} (h : Own E w0 B sv xs) : ∃ O cap, sv = .slice O xs.length cap := by
  rcases h.form with ⟨rfl, rfl⟩ | ⟨g, cap, rfl, _⟩
  · exact ⟨_, _, rfl⟩
  · exact ⟨_, _, rfl⟩
end
end Go.Proofs.Ytedogbkkophghaa.Sh
