/- The contract of levelled. -/
import Derived.Test.YtedogbkkophghaaTrA
namespace Go.Proofs.Ytedogbkkophghaa.Sh
open Go.RowKit Go.Lib Plain

section
variable {w W : World} {B : Nat} {v vl vr : Value} {t tl tr : T}
theorem quietR {P : Program} {f : FuncId} {args : Array Value} {w : World} {n : Nat} {v : Value}
    (h : Calls P f args (w.drewN n) fun e w' => e = .returned v ∧ w.drewN n = w') : Calls P f args (w.drewN n) fun e w'' => e = .returned v ∧ ∃ m, w'' = w.drewN m :=
  h.mono fun _ _ ⟨he, hm⟩ => ⟨he, n, hm.symm⟩
/-- what a call at W answers that makes this tree -/
def JPost (w W : World) (t : T) (e : Ending) (W' : World) : Prop := ∃ g, e = .returned (ptr g) ∧ TAt W' W'.heap.size (ptr g) t ∧ Below w.heap.size w W' ∧ Below W.heap.size W W'
theorem joined_at {p : Nat} {x : KV} (hb : Below w.heap.size w W) (hl : TAt W W.heap.size vl tl) (hp : PAt W p x) (hr : TAt W W.heap.size vr tr) (h1 : tl.high ≤ 1000000) (h2 : tr.high ≤ 1000000) :
    Calls Try.prog 69 #[vl, ptr p, vr] W (JPost w W (.node tl p x tr)) := by
  refine (joined_any hl hp hr h1 h2).mono ?_
  rintro e w' ⟨g, rfl, ht, hb'⟩
  exact ⟨g, rfl, ht, hb.trans (hb'.mono hb.size), hb'⟩
/-- what levelled answers -/
def LPost (w : World) (l : List KV) (e : Ending) (w' : World) : Prop := ∃ g t, e = .returned (ptr g) ∧ TAt w' w'.heap.size (ptr g) t ∧ t.kvs = l ∧ Below w.heap.size w w'
theorem JPost.to {l : List KV} (ht : t.kvs = l) {e : Ending} {W' : World} (h : JPost w W t e W') : LPost w l e W' := by
  obtain ⟨g, rfl, h, hb, _⟩ := h
  exact ⟨g, t, rfl, h, ht, hb⟩
set_option maxRecDepth 100000 in
set_option maxHeartbeats 1600000 in
/-- neither side is too high -/
theorem lev_none {p : Nat} {x : KV} (hl : TAt w w.heap.size vl tl) (hp : PAt w p x) (hr : TAt w w.heap.size vr tr) (h1 : tl.high ≤ 1000000) (h2 : tr.high ≤ 1000000) (hA : tl.high ≤ tr.high + 1) (hB : tr.high ≤ tl.high + 1) :
    Calls Try.prog 70 #[vl, ptr p, vr] w (LPost w (tl.kvs ++ x :: tr.kvs)) := by
  have CL := Lib.hid (high_any hl)
  have CR := Lib.hid (high_any hr)
  have CJ := Lib.hid (joined_at (Below.refl _ _) hl hp hr h1 h2)
  have ea : IntKind.i64.wrap ((tl.high : Int) + 1) = (tl.high : Int) + 1 := IntWalk.i64_in _ (by omega)
  have eb : IntKind.i64.wrap ((tr.high : Int) + 1) = (tr.high : Int) + 1 := IntWalk.i64_in _ (by omega)
  have f1 : ¬ (tr.high : Int) + 1 < (tl.high : Int) := by omega
  have f2 : ¬ (tl.high : Int) + 1 < (tr.high : Int) := by omega
  have hk : (T.node tl p x tr).kvs = tl.kvs ++ x :: tr.kvs := T.kvs_node ..
  generalize T.node tl p x tr = tj at *
  generalize tl.kvs ++ x :: tr.kvs = ll at *
  generalize tl.high = a at *
  generalize tr.high = b at *
  clear h1 h2 hA hB hl hr hp
  go_enter Try.func70, Try.ntmps70
  go_wp2_with (first | (go_at_call 73; (with_reducible refine CL.out.mono ?_); rintro e w' ⟨rfl, rfl⟩) | (go_at_call 73; (with_reducible refine CR.out.mono ?_); rintro e w' ⟨rfl, rfl⟩) | (go_at_call 69; (with_reducible refine CJ.out.mono ?_); rintro e w' ⟨g, rfl, T1, b1, _⟩))
  go_ret
  exact ⟨g, tj, rfl, T1, hk, b1⟩
end
end Go.Proofs.Ytedogbkkophghaa.Sh
