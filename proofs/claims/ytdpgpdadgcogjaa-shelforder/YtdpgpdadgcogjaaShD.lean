/- The contract of Keep. -/
import Derived.Test.YtdpgpdadgcogjaaShC
import Derived.Defers
import Derived.Recover
namespace Go.Proofs.Ytdpgpdadgcogjaa
open Go.RowKit Go.Lib Plain
set_option linter.unusedVariables false

theorem run_eql_func {P : Program} {t : TypeId} {a b : Array TypeId} {c : Bool} (hp : P.underlying t = some (.func a b c)) (f : Fn) (x y : Array Value) (w : World) : (binOp .eql t (.func f x y) .nilFunc).run P w = .ok (.bool false) w := by
  have h : ∀ d : Nat, (Op.equalIn (d + 1) t (.func f x y) .nilFunc).run P w = .ok false w := fun d => by simp [Op.equalIn, run_underlying hp]
  simp only [binOp]
  simp [Op.equal, Op.maxDepth, h 9999]
theorem run_eql_nilFunc {P : Program} {t : TypeId} {a b : Array TypeId} {c : Bool} (hp : P.underlying t = some (.func a b c)) (w : World) : (binOp .eql t .nilFunc .nilFunc).run P w = .ok (.bool true) w := by
  have h : ∀ d : Nat, (Op.equalIn (d + 1) t .nilFunc .nilFunc).run P w = .ok true w := fun d => by simp [Op.equalIn, run_underlying hp]
  simp only [binOp]
  simp [Op.equal, Op.maxDepth, h 9999]
/-- whether a value has no rest -/
def oddB (by_ n : Int) : Bool := n.tmod by_ == 0
set_option maxHeartbeats 400000 in
theorem is_any (by_ n : Int) (k : ByteArray) (h1 : 2 ≤ by_) (h2 : by_ ≤ 4) (w : World) : Calls Try.prog 14 #[.agg #[.int .i64 by_], .string k, .int .i64 n] w fun e w' => e = .returned (.bool (oddB by_ n)) ∧ Below w.heap.size w w' := by
  unfold oddB
  have b0 : ¬ by_ = 0 := by omega
  go_enter Try.func14, Try.ntmps14
  go_wp2
  go_ret
  exact ⟨rfl, (Below.refl _ _).alloc (Nat.le_refl _) _⟩
set_option maxHeartbeats 400000 in
theorem not_any (by_ n : Int) (k : ByteArray) (h1 : 2 ≤ by_) (h2 : by_ ≤ 4) (w : World) : Calls Try.prog 23 #[.agg #[.int .i64 by_], .string k, .int .i64 n] w fun e w' => e = .returned (.bool (!oddB by_ n)) ∧ Below w.heap.size w w' := by
  have CI := Lib.hid (is_any by_ n k h1 h2 (w.alloc (.cells #[.int .i64 by_] 41)))
  clear h1 h2
  go_enter Try.func23, Try.ntmps23
  go_wp2_with fail
  refine CI.out.mono ?_
  rintro e w' ⟨rfl, hb⟩
  go_wp2_with fail
  go_ret
  exact ⟨rfl, ((Below.refl _ _).alloc (Nat.le_refl _) _).trans (hb.mono (by simp))⟩
set_option maxHeartbeats 400000 in
theorem keep1_idle (a b : Nat) (w : World) :
    CallsD Try.prog 31 #[ptr a, ptr b] .returning w fun e u' w' => e = .returned (.tuple #[]) ∧ u' = .returning ∧ w' = w := by
  refine callsD_of_wpS Try.func31 rfl fun c₀ cs hu => ?_
  apply wpS_seq
  apply wpS_region
  simp [wpOpsS, go_sem, recoverD, hu, Try.ntmps31, Exit.thenS]
  refine wpS_cond (t := false) (by simp [Act.eval, Array.replicate]) ?_
  simp only [Bool.false_eq_true, if_false]
  refine wpS_of_wp (wp_skip ?_)
  cases c₀
  simp_all [bodyPostS, results, Try.results31]
section
variable {w w' : World} {v : Value} {l : List KV} {room : Nat}
abbrev delW2 (w : World) (v : Value) (N room : Nat) : World := (w.alloc (.cells #[v, .int .i64 (N : Int), .int .i64 (room : Int)] 26)).alloc (.cells #[v, .int .i64 (N : Int), .int .i64 (room : Int)] 26)
set_option maxRecDepth 100000 in
set_option maxHeartbeats 1600000 in
theorem keep_nil (h : SAt w v l room) : Calls Try.prog 13 #[v, .nilFunc] w (SPost w l room) := by
  obtain ⟨vt, t, rfl, ht, rfl, hr, h1, h2⟩ := h
  obtain ⟨o, rfl⟩ := ht.ptr
  have hfe := run_eql_nilFunc (P := Try.prog) Try.underlying39
  have HT := Lib.hid ht; have HR := Lib.hid hr; clear ht hr
  go_enter_defers Try.func13, Try.ntmps13
  go_wp2_with fail
  simp [bodyPostD, Leaves, results, Try.results13, go_sem]
  have hb : Below w.heap.size w (delW2 w (.pointer o) t.kvs.length room) := ((Below.refl _ _).alloc (Nat.le_refl _) _).alloc (by simp) _
  exact ⟨_, rfl, ⟨_, t, rfl, HT.out.step hb, rfl, HR.out, h1, h2⟩, hb⟩
/-- the function that is handed to Keep -/
def fkeep (F : Nat) (by_ : Int) : Value := .func (.func F) #[.agg #[.int .i64 by_]] #[]
/-- within Keep: what was made behind the world in which all pairs were listed -/
structure KSt (w0 wx : World) (rv : Value) (qs : List Nat) : Prop where
  own : Own eP wx w0.heap.size rv qs
  bel : Below w0.heap.size w0 wx
theorem KSt.push {w0 wx : World} {rv : Value} {qs : List Nat} (h : KSt w0 wx rv qs) (p : Nat) (hn : qs.length ≤ 100000) (ty : TypeId) :
    ∃ rv' w', (Builtin.append_ #[69, 69] ty #[rv, .slice (some ⟨wx.heap.size, 0, none⟩) 1 1]).run Try.prog (wx.alloc (.cells #[ptr p] 67)) = .ok rv' w' ∧ KSt w0 w' rv' (qs ++ [p]) := by
  have hb : Below wx.heap.size wx (wx.alloc (.cells #[ptr p] 67)) := (Below.refl _ _).alloc (Nat.le_refl _) _
  have ho := h.own.below hb
  have hs := h.bel.size
  obtain ⟨rv', w', hr, o', c', l'⟩ := ho.push (x := p) (b := wx.heap.size) (off := 0) (cap := 1) (by simp; omega) (lit_cell (At.new wx 67 #[ptr p])) (by omega) ty
  exact ⟨rv', w', hr, o', (h.bel.trans (hb.mono hs)).trans (c'.below' ho (by simp; omega))⟩
theorem KSt.below {w0 wx wy : World} {rv : Value} {qs : List Nat} (h : KSt w0 wx rv qs) (hb : Below wx.heap.size wx wy) : KSt w0 wy rv qs := ⟨h.own.below hb, h.bel.trans (hb.mono h.bel.size)⟩
/-- those that are kept -/
def kept (q : Int → Bool) (ps : List (Nat × KV)) : List (Nat × KV) := ps.filter (fun y => q y.2.2)
theorem kept_take {q : Int → Bool} {ps : List (Nat × KV)} {j : Nat} {y : Nat × KV} (h : ps[j]? = some y) : kept q (ps.take (j + 1)) = if q y.2.2 = true then kept q (ps.take j) ++ [y] else kept q (ps.take j) := by
  unfold kept
  rw [List.take_add_one, h, List.filter_append]
  simp only [Option.toList]
  split
  · next e => simp [List.filter, e]
  · next e => simp [List.filter, e]
theorem kept_kvs (q : Int → Bool) (ps : List (Nat × KV)) : (kept q ps).map (·.2) = (ps.map (·.2)).filter (fun x => q x.2) := by
  unfold kept
  rw [List.filter_map]
  rfl
theorem row_cell {w0 : World} {B : Nat} {sv : Value} {ps : List (Nat × KV)} {j : Nat} (h : Own eP w0 B sv (ps.map (·.1))) (hj : j < ps.length) :
    ∃ g cap, sv = .slice (some ⟨g, 0, none⟩) ps.length cap ∧ g < w0.heap.size ∧ w0.cell? ⟨g, j, none⟩ = some (ptr ps[j].1) := by
  have hx : ps[j]? = some ps[j] := List.getElem?_eq_getElem hj
  rcases h.form with ⟨rfl, h0⟩ | ⟨g, cap, rfl, hc, _, hlt⟩
  · simp at h0; subst h0; simp at hj
  · obtain ⟨b, off, e, hb, k⟩ := h.rd.cellP (i := j) (p := ps[j].1) (by rw [List.getElem?_map, hx]; rfl)
    injection e with e
    injection e with e1 e2 e3
    subst e1; subst e2
    rw [Nat.zero_add] at k
    exact ⟨g, cap, by rw [List.length_map], hlt, k⟩
theorem own_slice {E : El Nat} {w0 : World} {B : Nat} {sv : Value} {xs : List Nat} (h : Own E w0 B sv xs) : ∃ O cap, sv = .slice O xs.length cap := by
  rcases h.form with ⟨rfl, rfl⟩ | ⟨g, cap, rfl, _⟩
  · exact ⟨_, _, rfl⟩
  · exact ⟨_, _, rfl⟩
end
end Go.Proofs.Ytdpgpdadgcogjaa
