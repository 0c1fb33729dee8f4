/- The contracts of first and levelled. -/
import Derived.Test.YtdpgpdadgcogjaaTrA
namespace Go.Proofs.Ytdpgpdadgcogjaa
open Go.RowKit Go.Lib Plain

section
variable {w W : World} {B : Nat} {v vl vr : Value} {t tl tr : T}
set_option maxRecDepth 100000 in
set_option maxHeartbeats 800000 in
theorem first_any (h : TAt w B v t) (hn : t ≠ .nil) : Calls Try.prog 40 #[v] w fun e w' => w = w' ∧ ∃ p x rest, t.its = (p, x) :: rest ∧ e = .returned (ptr p) := by
  have HT := Lib.hid h; have HN := Lib.hid hn; clear h hn
  obtain ⟨I, hI⟩ : ∃ I, t.its = I := ⟨_, rfl⟩
  rw [hI]
  have HI := Lib.hid hI; clear hI
  go_enter Try.func40, Try.ntmps40
  go_wp2_with fail
  go_loopg [0] t.its.length (fun n s0 wx => wx = w ∧ ∃ t' rest, TAt w B s0 t' ∧ t' ≠ .nil ∧ I = t'.its ++ rest ∧ n = t'.its.length)
  case atStart => exact ⟨rfl, t, [], HT.out, HN.out, by rw [← HI.out, List.append_nil], rfl⟩
  case round =>
    obtain ⟨rfl, t', rest, ht, hnn, hi, hn⟩ := hrel
    rcases ht.form with ⟨rfl, rfl⟩ | ⟨g, l, p, x, r, vl, vr, rfl, htt, hgB, hpB, hno, hx, hl, hrr⟩
    · exact absurd rfl hnn
    · subst htt
      have c0 := hno.c0; have c1 := hno.c1
      have HII := Lib.hid hi; have HNN := Lib.hid hn; have HL := Lib.hid hl
      clear ht hno hx hrr hi hn hnn
      rcases hl.form with ⟨rfl, rfl⟩ | ⟨g2, l2, p2, x2, r2, vl2, vr2, rfl, htt, _⟩
      · clear hl
        go_wp2_with fail
        go_ret
        exact ⟨rfl, p, x, r.its ++ rest, by rw [HII.out]; rfl, rfl⟩
      · clear hl
        have HTT := Lib.hid htt; clear htt
        go_wp2_with fail
        go_roundg l.its.length
        case measure => have := HNN.out; rw [this, T.its, List.length_append, List.length_cons]; omega
        case rel => exact ⟨rfl, l, (p, x) :: r.its ++ rest, HL.out, by rw [HTT.out]; exact fun h => T.noConfusion h, by rw [HII.out, T.its]; simp, rfl⟩

theorem quietR {P : Program} {f : FuncId} {args : Array Value} {w : World} {n : Nat} {v : Value}
    (h : Calls P f args (w.drewN n) fun e w' => e = .returned v ∧ w.drewN n = w') : Calls P f args (w.drewN n) fun e w'' => e = .returned v ∧ ∃ m, w'' = w.drewN m :=
  h.mono fun _ _ ⟨he, hm⟩ => ⟨he, n, hm.symm⟩
/-- what a call at W answers that makes this tree -/
def JPost (w W : World) (t : T) (e : Ending) (W' : World) : Prop := ∃ g, e = .returned (ptr g) ∧ TAt W' W'.heap.size (ptr g) t ∧ Below w.heap.size w W' ∧ Below W.heap.size W W'
theorem joined_at {p : Nat} {x : KV} (hb : Below w.heap.size w W) (hl : TAt W W.heap.size vl tl) (hp : PAt W p x) (hr : TAt W W.heap.size vr tr) (h1 : tl.high ≤ 1000000) (h2 : tr.high ≤ 1000000) :
    Calls Try.prog 38 #[vl, ptr p, vr] W (JPost w W (.node tl p x tr)) := by
  refine (joined_any hl hp hr h1 h2).mono ?_
  rintro e w' ⟨g, rfl, ht, hb'⟩
  exact ⟨g, rfl, ht, hb.trans (hb'.mono hb.size), hb'⟩
/-- what levelled answers -/
def LPost (w : World) (l : List KV) (e : Ending) (w' : World) : Prop := ∃ g t, e = .returned (ptr g) ∧ TAt w' w'.heap.size (ptr g) t ∧ t.kvs = l ∧ Below w.heap.size w w'
theorem JPost.to {l : List KV} (ht : t.kvs = l) {e : Ending} {W' : World} (h : JPost w W t e W') : LPost w l e W' := by
  obtain ⟨g, rfl, h, hb, _⟩ := h
  exact ⟨g, t, rfl, h, ht, hb⟩
set_option maxRecDepth 100000 in
set_option maxHeartbeats 1600000 in
/-- neither side is too high -/
theorem lev_none {p : Nat} {x : KV} (hl : TAt w w.heap.size vl tl) (hp : PAt w p x) (hr : TAt w w.heap.size vr tr) (h1 : tl.high ≤ 1000000) (h2 : tr.high ≤ 1000000) (hA : tl.high ≤ tr.high + 1) (hB : tr.high ≤ tl.high + 1) :
    Calls Try.prog 39 #[vl, ptr p, vr] w (LPost w (tl.kvs ++ x :: tr.kvs)) := by
  have CL := Lib.hid (high_any hl)
  have CR := Lib.hid (high_any hr)
  have CJ := Lib.hid (joined_at (Below.refl _ _) hl hp hr h1 h2)
  have ea : IntKind.i64.wrap ((tl.high : Int) + 1) = (tl.high : Int) + 1 := IntWalk.i64_in _ (by omega)
  have eb : IntKind.i64.wrap ((tr.high : Int) + 1) = (tr.high : Int) + 1 := IntWalk.i64_in _ (by omega)
  have f1 : ¬ (tr.high : Int) + 1 < (tl.high : Int) := by omega
  have f2 : ¬ (tl.high : Int) + 1 < (tr.high : Int) := by omega
  have hk : (T.node tl p x tr).kvs = tl.kvs ++ x :: tr.kvs := T.kvs_node ..
  generalize T.node tl p x tr = tj at *
  generalize tl.kvs ++ x :: tr.kvs = ll at *
  generalize tl.high = a at *
  generalize tr.high = b at *
  clear h1 h2 hA hB hl hr hp
  go_enter Try.func39, Try.ntmps39
  go_wp2_with (first | (go_at_call 43; (with_reducible refine CL.out.mono ?_); rintro e w' ⟨rfl, rfl⟩) | (go_at_call 43; (with_reducible refine CR.out.mono ?_); rintro e w' ⟨rfl, rfl⟩) | (go_at_call 38; (with_reducible refine CJ.out.mono ?_); rintro e w' ⟨g, rfl, T1, b1, _⟩))
  go_ret
  exact ⟨g, tj, rfl, T1, hk, b1⟩
end
end Go.Proofs.Ytdpgpdadgcogjaa
