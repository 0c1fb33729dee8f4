/- The functions that the statements hand to Map and Fold, and the closures that these defer. -/
import Derived.Test.YtenajaiedoigpaaRefsB
import Derived.Test.YtenajaiedoigpaaRPC
import Derived.Defers
import Derived.Recover
namespace Go.Proofs.Ytenajaiedoigpaa
open Go.RowKit Go.Lib Plain

/-- a number's half, and whether it is even -/
def mk (n : Int) : Int × Bool := (wrap64 (n.tdiv 2), n.tmod 2 == 0)
/-- a number of what a Map made -/
def bk (p : Int × Bool) : Int := if p.2 = true then p.1 else wrap64 (-p.1)
def fmade : Value := .func (.func 23) #[] #[]
def fback : Value := .func (.func 29) #[] #[]
def fadd : Value := .func (.func 27) #[] #[]
set_option maxHeartbeats 400000 in
theorem made_any (n : Int) (w : World) : Calls Try.prog 23 #[.int .i64 n] w fun e w' => e = .returned (.agg #[.int .i64 (mk n).1, .bool (mk n).2]) ∧ w' = w.alloc (.cells #[.int .i64 (mk n).1, .bool (mk n).2] 48) := by
  unfold mk
  go_enter Try.func23, Try.ntmps23
  go_wp2
  exact bodyPost_ret (v := .agg #[.int .i64 (wrap64 (n.tdiv 2)), .bool (n.tmod 2 == 0)]) (by simp [results, Try.results23, go_sem]) rfl ⟨rfl, rfl⟩
set_option maxHeartbeats 400000 in
theorem back_any (p : Int × Bool) (w : World) : Calls Try.prog 29 #[.agg #[.int .i64 p.1, .bool p.2]] w fun e w' => e = .returned (.int .i64 (bk p)) ∧ w' = w.alloc (.cells #[.int .i64 p.1, .bool p.2] 48) := by
  obtain ⟨a, b⟩ := p
  cases b
  · have e : bk (a, false) = wrap64 (-a) := rfl
    rw [e]
    go_enter Try.func29, Try.ntmps29
    go_wp2
    go_ret
    exact ⟨rfl, rfl⟩
  · have e : bk (a, true) = a := rfl
    rw [e]
    go_enter Try.func29, Try.ntmps29
    go_wp2
    go_ret
    exact ⟨rfl, rfl⟩
set_option maxRecDepth 100000 in
set_option maxHeartbeats 800000 in
theorem add_any {w : World} {B : Nat} {v : Value} {zs : List Int} (x : Int) (h : OwnI w B v zs) (hn : zs.length ≤ 1000) : Calls Try.prog 27 #[v, .int .i64 x] w fun e w' => ∃ v', e = .returned v' ∧ OwnI w' w.heap.size v' (zs ++ [x]) ∧ Below w.heap.size w w' := by
  have hb : Below w.heap.size w (w.alloc (.cells #[] 3)) := (Below.refl _ _).alloc (Nat.le_refl _) _
  obtain ⟨v1, w1, hr1, ho1, hg1, _⟩ := append_ints 30 (own_lit0 w (Nat.le_refl _)) (h.below hb).src (by simp; omega) (by simp)
  rw [List.nil_append] at ho1
  have hb1 : Below w.heap.size w w1 := hb.grown hg1 (by simp) (fun k hk => by simp [Value.ownBlock] at hk; omega)
  have hs1 := hb1.size
  have hb2 : Below w1.heap.size w1 (w1.alloc (.cells #[.int .i64 x] 3)) := (Below.refl _ _).alloc (Nat.le_refl _) _
  obtain ⟨v2, w2, hr2, ho2, hg2, _⟩ := append_ints 30 (ho1.below hb2) (src_one w1 x) (by simp; omega) (by simp; omega)
  have hb3 : Below w.heap.size w w2 := (hb1.trans (hb2.mono hs1)).grown hg2 (by simp; omega) (fun k hk => (ho1.lt hk).1)
  have HR1 := Lib.hid hr1; have HR2 := Lib.hid hr2; have HF := Lib.hid (And.intro ho2 hb3)
  clear hb hr1 ho1 hg1 hb1 hb2 hr2 ho2 hg2 hb3 h
  go_enter Try.func27, Try.ntmps27
  go_wp2_with (first | (at_builtin; (refine Lib.wpList_append_run _ rfl (.tmp 5) (.tmp 6) 30 30 rfl _ _ rfl rfl v1 w1 HR1.out ?_)) | (at_builtin; (refine Lib.wpList_append_run _ rfl (.tmp 7) (.tmp 9) 30 30 rfl _ _ rfl rfl v2 w2 HR2.out ?_)))
  go_ret
  exact ⟨v2, rfl, HF.out⟩
set_option maxHeartbeats 400000 in
theorem map1_idle (l : Nat) (w : World) :
    CallsD Try.prog 44 #[.pointer (some ⟨l, 0, none⟩)] .returning w fun e u' w' => e = .returned (.tuple #[]) ∧ u' = .returning ∧ w' = w := by
  refine callsD_of_wpS Try.func44 rfl fun c₀ cs hu => ?_
  apply wpS_seq
  apply wpS_region
  simp [wpOpsS, go_sem, recoverD, hu, Try.ntmps44, Exit.thenS]
  refine wpS_cond (t := false) (by simp [Act.eval, Array.replicate]) ?_
  simp only [Bool.false_eq_true, if_false]
  refine wpS_of_wp (wp_skip ?_)
  cases c₀
  simp_all [bodyPostS, results, Try.results44]
set_option maxHeartbeats 400000 in
theorem map2_idle (l : Nat) (w : World) :
    CallsD Try.prog 50 #[.pointer (some ⟨l, 0, none⟩)] .returning w fun e u' w' => e = .returned (.tuple #[]) ∧ u' = .returning ∧ w' = w := by
  refine callsD_of_wpS Try.func50 rfl fun c₀ cs hu => ?_
  apply wpS_seq
  apply wpS_region
  simp [wpOpsS, go_sem, recoverD, hu, Try.ntmps50, Exit.thenS]
  refine wpS_cond (t := false) (by simp [Act.eval, Array.replicate]) ?_
  simp only [Bool.false_eq_true, if_false]
  refine wpS_of_wp (wp_skip ?_)
  cases c₀
  simp_all [bodyPostS, results, Try.results50]
set_option maxHeartbeats 400000 in
theorem fold1_idle (l u : Nat) (w : World) :
    CallsD Try.prog 49 #[.pointer (some ⟨l, 0, none⟩), .pointer (some ⟨u, 0, none⟩)] .returning w fun e u' w' => e = .returned (.tuple #[]) ∧ u' = .returning ∧ w' = w := by
  refine callsD_of_wpS Try.func49 rfl fun c₀ cs hu => ?_
  apply wpS_seq
  apply wpS_region
  simp [wpOpsS, go_sem, recoverD, hu, Try.ntmps49, Exit.thenS]
  refine wpS_cond (t := false) (by simp [Act.eval, Array.replicate]) ?_
  simp only [Bool.false_eq_true, if_false]
  refine wpS_of_wp (wp_skip ?_)
  cases c₀
  simp_all [bodyPostS, results, Try.results49]
end Go.Proofs.Ytenajaiedoigpaa
