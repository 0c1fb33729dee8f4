/- The closures that List and Read defer, and the functions that the statements hand to them. -/
import Derived.Test.YtoijipahcpdhcaaBack
import Derived.Defers
import Derived.Recover
import Derived.Laws.Pointers
namespace Go.Proofs.Ytoijipahcpdhcaa
open Go.RowKit Go.Lib Plain

set_option maxHeartbeats 400000 in
theorem list1_done (d b o : Nat) (w : World) (hd : w.cell? ⟨d, 0, none⟩ = some (.bool true)) :
    CallsD Try.prog 34 #[.pointer (some ⟨d, 0, none⟩), .pointer (some ⟨b, 0, none⟩), .pointer (some ⟨o, 0, none⟩)] .returning w fun e u' w' => e = .returned (.tuple #[]) ∧ u' = .returning ∧ w' = w := by
  refine callsD_of_wpS Try.func34 rfl fun c₀ cs hu => ?_
  apply wpS_seq
  apply wpS_region
  simp [wpOpsS, go_sem, recoverD, hu, Try.ntmps34, Exit.thenS]
  refine wpS_of_wp ?_
  have e : (#[Value.pointer (some ⟨d, 0, none⟩), .pointer (some ⟨b, 0, none⟩), .pointer (some ⟨o, 0, none⟩)] ++ (Array.replicate 6 undef).setIfInBounds 0 Value.nilIface) = #[.pointer (some ⟨d, 0, none⟩), .pointer (some ⟨b, 0, none⟩), .pointer (some ⟨o, 0, none⟩), .nilIface, undef, undef, undef, undef, undef] := rfl
  rw [e]
  clear e
  go_wp2
  cases c₀
  simp_all [bodyPostS, results, Try.results34]
set_option maxHeartbeats 400000 in
theorem list1_undo (d b o p : Nat) (v v0 : Value) (w : World) (hd : w.cell? ⟨d, 0, none⟩ = some (.bool false)) (hb : w.cell? ⟨b, 0, none⟩ = some v) (ho : w.cell? ⟨o, 0, none⟩ = some (.pointer (some ⟨p, 0, none⟩))) (hp : w.cell? ⟨p, 0, none⟩ = some v0) (hf : w.frozen? ⟨p, 0, none⟩ = false) (hv : (∃ g n c, v = .slice (some ⟨g, 0, none⟩) n c) ∨ v = .slice none 0 0) :
    CallsD Try.prog 34 #[.pointer (some ⟨d, 0, none⟩), .pointer (some ⟨b, 0, none⟩), .pointer (some ⟨o, 0, none⟩)] .returning w fun e u' w' => e = .returned (.tuple #[]) ∧ u' = .returning ∧ w' = w.setCell ⟨p, 0, none⟩ v := by
  refine callsD_of_wpS Try.func34 rfl fun c₀ cs hu => ?_
  apply wpS_seq
  apply wpS_region
  simp [wpOpsS, go_sem, recoverD, hu, Try.ntmps34, Exit.thenS]
  refine wpS_of_wp ?_
  have e : (#[Value.pointer (some ⟨d, 0, none⟩), .pointer (some ⟨b, 0, none⟩), .pointer (some ⟨o, 0, none⟩)] ++ (Array.replicate 6 undef).setIfInBounds 0 Value.nilIface) = #[.pointer (some ⟨d, 0, none⟩), .pointer (some ⟨b, 0, none⟩), .pointer (some ⟨o, 0, none⟩), .nilIface, undef, undef, undef, undef, undef] := rfl
  rw [e]
  clear e
  rcases hv with ⟨g, n, c, rfl⟩ | rfl
  all_goals
    go_wp2
    cases c₀
    simp_all [bodyPostS, results, Try.results34]
set_option maxHeartbeats 400000 in
theorem read1_idle (i l : Nat) (w : World) :
    CallsD Try.prog 35 #[.pointer (some ⟨i, 0, none⟩), .pointer (some ⟨l, 0, none⟩)] .returning w fun e u' w' => e = .returned (.tuple #[]) ∧ u' = .returning ∧ w' = w := by
  refine callsD_of_wpS Try.func35 rfl fun c₀ cs hu => ?_
  apply wpS_seq
  apply wpS_region
  simp [wpOpsS, go_sem, recoverD, hu, Try.ntmps35, Exit.thenS]
  refine wpS_cond (t := false) (by simp [Act.eval, Array.replicate]) ?_
  simp only [Bool.false_eq_true, if_false]
  refine wpS_of_wp (wp_skip ?_)
  cases c₀
  simp_all [bodyPostS, results, Try.results35]

set_option maxHeartbeats 400000 in
theorem number25_any (B p : Nat) (v : Value) (bs : List UInt8) (x : Int) (w : World) (ho : Out w B p v bs) (hB : B ≤ w.heap.size) (hx : inI64 x) (hl : bs.length ≤ 1000000000) :
    Calls Try.prog 25 #[.pointer (some ⟨p, 0, none⟩), .int .i64 x] w fun e w' => e = .returned (.bool (okNums 1 [x])) ∧ Wrote w B p v (numd 1 [x] bs) w' := by
  have HO := Lib.hid ho; clear ho
  go_enter Try.func25, Try.ntmps25
  go_wp2_with (go_at_call 10; refine (num_one B p w.heap.size 1 v bs 1 x _ (HO.out.alloc _) (by simp; omega) (by simp [go_sem]) hx hl (HO.out.not_new (Nat.le_refl _))).mono ?_; rintro e w' ⟨rfl, hw⟩; have HW := Lib.hid hw; clear hw)
  go_ret
  exact ⟨rfl, Wrote.trans ((Chg.refl w (outSet p v)).alloc _) (Lies.refl _ _) HW.out⟩
set_option maxHeartbeats 400000 in
theorem read27_any {w : World} {p : Nat} {s : ByteArray} {bad : Bool} (h : InAt w p s bad) (hs : s.size ≤ maxLen) :
    Calls Try.prog 27 #[.pointer (some ⟨p, 0, none⟩)] w fun e w' => e = .returned (.int .i64 (inV 1 s)) ∧ Took w p (inS 1 s) (inB 1 s bad) w' := by
  have H := Lib.hid h; have HS := Lib.hid hs; clear h hs
  go_enter Try.func27, Try.ntmps27
  go_wp2_with (go_at_call 16; refine (inum_any 1 H.out HS.out).mono ?_; rintro e w' ⟨rfl, ht⟩)
  go_ret
  exact ⟨rfl, ht⟩
set_option maxHeartbeats 400000 in
theorem read27_nil (w : World) : Calls Try.prog 27 #[.pointer none] w fun e w' => e = .returned (.int .i64 0) ∧ w = w' := by
  go_enter Try.func27, Try.ntmps27
  go_wp2_with (go_at_call 16; refine (inum_nil 1 _ (by decide)).mono ?_; rintro e w' ⟨rfl, rfl⟩)
  go_ret
  exact ⟨rfl, rfl⟩
end Go.Proofs.Ytoijipahcpdhcaa
