/- New of any numbers; a book's small questions. -/
import Derived.Test.YtodacdooooeofaaBkA
namespace Go.Proofs.Ytodacdooooeofaa
open Go.RowKit Go.Lib
open Sh.Plain (KV get put del Rise)
set_option linter.unusedVariables false
set_option linter.unusedSimpArgs false

/-- the greatest number -/
def top : Int := 1073741824
def newA (c : Cfg) (x : K) (i o b : Int) : K × Int := if chkK c x = 0 then (if i < 1 ∨ o < 1 ∨ b < 0 ∨ top < max (max i o) b then (zk, 1) else ({ x with id := i, own := o, born := b, st := 1 }, 0)) else (zk, chkK c x)
theorem newA_no {c : Cfg} {x : K} {i o b : Int} (h : chkK c x ≠ 0) : newA c x i o b = (zk, chkK c x) := if_neg h
theorem newA_arg {c : Cfg} {x : K} {i o b : Int} (h : chkK c x = 0) (h2 : i < 1 ∨ o < 1 ∨ b < 0 ∨ top < max (max i o) b) : newA c x i o b = (zk, 1) := by unfold newA; rw [if_pos h, if_pos h2]
theorem newA_ok {c : Cfg} {x : K} {i o b : Int} (h : chkK c x = 0) (h2 : ¬ (i < 1 ∨ o < 1 ∨ b < 0 ∨ top < max (max i o) b)) : newA c x i o b = ({ x with id := i, own := o, born := b, st := 1 }, 0) := by unfold newA; rw [if_pos h, if_neg h2]

theorem run_max3 {ρ : Operand → Value} {w : World} {x y z : Tmp} {i o b M : Int} {d : Option Tmp} {t : TypeId} {pos : String} {af : Array Edge} {gd : Option (Nat × Bool)} (e1 : ρ (.tmp x) = .int .i64 i) (e2 : ρ (.tmp y) = .int .i64 o) (e3 : ρ (.tmp z) = .int .i64 b) (hM : max (max i o) b = M) :
    (execOp ρ { dst := d, op := Op.call { callee := Callee.builtin Builtin.max, args := #[.tmp x, .tmp y, .tmp z], argTypes := #[3, 3, 3] }, type := t, pos := pos, after := af, guard := gd }).run Try.prog w = .ok (.value (.int .i64 M)) w := by
  have e : (if b > (if o > i then o else i) then b else (if o > i then o else i)) = M := by
    subst hM; split <;> split <;> omega
  simp [execOp, e1, e2, e3, go_sem]
  exact e
theorem wpList_max3 {ops : Array Oper} {rest : List Oper} {o' : Oper} {a : Act} {w : World} {Q : Exit → Act → World → Prop} {i o b M : Int} (hM : max (max i o) b = M) (x y z : Tmp) (ho : o'.op = Op.call { callee := Callee.builtin Builtin.max, args := #[.tmp x, .tmp y, .tmp z], argTypes := #[3, 3, 3] }) (hgd : Region.wanted o' (yielded ops a.tmps) = true)
    (e1 : a.eval (.tmp x) = .int .i64 i) (e2 : a.eval (.tmp y) = .int .i64 o) (e3 : a.eval (.tmp z) = .int .i64 b) (k : wpList Try.prog ops Q rest (a.put o'.dst (.int .i64 M)) w) : wpList Try.prog ops Q (o' :: rest) a w := by
  obtain ⟨dd, op, t, pos, af, gd⟩ := o'
  subst ho
  exact wpList_run hgd _ (run_max3 e1 e2 e3 hM) k
set_option maxRecDepth 100000 in
set_option maxHeartbeats 2000000 in
theorem newA_bad (c : Cfg) (x : K) (i o b : Int) (w : World) (hc : chkK c x ≠ 0) : Calls Try.prog 23 #[c.V, x.V, .int .i64 i, .int .i64 o, .int .i64 b] w (Ans w (newA c x i o b)) := by
  have HT := Lib.hid (Thr.new w c x)
  have CK := Lib.hid (fun W => checkK_any c x W)
  rw [newA_no hc]
  generalize chkK c x = n at *
  have d1 : decide (n = 0) = false := by simpa using hc
  have n1 : (n != 0) = true := by simpa using hc
  have q1 : (n == 0) = false := by simpa using hc
  clear hc
  go_enter Try.func23, Try.ntmps23
  go_upto_region 1 with fail
  obtain ⟨W, hW⟩ : ∃ W, ((w.alloc (.cells c.cells 24)).alloc (.cells x.cells 37)).alloc (.cells Z8 37) = W := ⟨_, rfl⟩
  rw [hW] at HT ⊢; clear hW
  generalize w.heap.size + 1 + 1 = q at HT ⊢
  generalize w.heap.size + 1 = p at HT ⊢
  generalize w.heap.size = g at HT ⊢
  have HA := Lib.hid HT.out.two.at_; have HC := Lib.hid HT.out.cat
  go_wp2_with (first | ((with_reducible apply wpList_load_cat (h := HC.out)); exact rfl; exact rfl; exact rfl) | ((with_reducible apply wpList_load_kat (h := HA.out)); exact rfl; exact rfl; exact rfl))
  refine (CK.out _).mono ?_
  rintro e w1 ⟨rfl, hb⟩
  have H1 := Lib.hid (HT.out.step hb).two; clear hb HA HC HT CK
  obtain ⟨z, hz⟩ := H1.out.ans
  have HZ := Lib.hid hz; clear hz
  go_wp2_with ((with_reducible apply wpList_store_kat (c := zk) (hq := HZ.out)); exact rfl; exact rfl; exact rfl; exact rfl)
  exact bodyPost_ret (results_pair Try.results23 rfl rfl (H1.out.out zk).1) rfl (H1.out.fin rfl)
set_option maxRecDepth 100000 in
set_option maxHeartbeats 2000000 in
theorem newA_args (c : Cfg) (x : K) (i o b : Int) (w : World) (hc : chkK c x = 0) (h2 : i < 1 ∨ o < 1 ∨ b < 0 ∨ top < max (max i o) b) : Calls Try.prog 23 #[c.V, x.V, .int .i64 i, .int .i64 o, .int .i64 b] w (Ans w (newA c x i o b)) := by
  have HT := Lib.hid (Thr.new w c x)
  have CK := Lib.hid (fun W => checkK_any c x W)
  rw [newA_arg hc h2]
  rw [hc] at CK; clear hc
  obtain ⟨t1, t2, t3, t4, hd⟩ : ∃ (t1 t2 t3 t4 : Bool) (M : Int), max (max i o) b = M ∧ decide (i < 1) = t1 ∧ decide (o < 1) = t2 ∧ decide (b < 0) = t3 ∧ decide (top < M) = t4 ∧ (t1 || t2 || t3 || t4) = true := by
    refine ⟨_, _, _, _, _, rfl, rfl, rfl, rfl, rfl, ?_⟩
    simp only [Bool.or_eq_true, decide_eq_true_eq]
    rcases h2 with h | h | h | h
    · exact .inl (.inl (.inl h))
    · exact .inl (.inl (.inr h))
    · exact .inl (.inr h)
    · exact .inr h
  obtain ⟨M, hM, d1, d2, d3, d4, ht⟩ := hd; have HM := Lib.hid hM; clear hM; unfold top at d4
  clear h2
  go_enter Try.func23, Try.ntmps23
  go_upto_region 1 with fail
  obtain ⟨W, hW⟩ : ∃ W, ((w.alloc (.cells c.cells 24)).alloc (.cells x.cells 37)).alloc (.cells Z8 37) = W := ⟨_, rfl⟩
  rw [hW] at HT ⊢; clear hW
  generalize w.heap.size + 1 + 1 = q at HT ⊢
  generalize w.heap.size + 1 = p at HT ⊢
  generalize w.heap.size = g at HT ⊢
  have HA := Lib.hid HT.out.two.at_; have HC := Lib.hid HT.out.cat
  go_wp2_with (first | ((with_reducible apply wpList_load_cat (h := HC.out)); exact rfl; exact rfl; exact rfl) | ((with_reducible apply wpList_load_kat (h := HA.out)); exact rfl; exact rfl; exact rfl))
  refine (CK.out _).mono ?_
  rintro e w1 ⟨rfl, hb⟩
  have H1 := Lib.hid (HT.out.step hb).two; clear hb HA HC HT CK
  obtain ⟨z, hz⟩ := H1.out.ans
  have HZ := Lib.hid hz; clear hz
  have HTT := Lib.hid ht; clear ht
  cases t1
  · cases t2
    · cases t3
      · cases t4
        · exact absurd HTT.out (by decide)
        · clear HTT
          go_wp2_with (first | ((with_reducible apply wpList_max3 HM.out); exact rfl; exact rfl; exact rfl; exact rfl; exact rfl) | ((with_reducible apply wpList_store_kat (c := zk) (hq := HZ.out)); exact rfl; exact rfl; exact rfl; exact rfl))
          exact bodyPost_ret (results_pair Try.results23 rfl rfl (H1.out.out zk).1) rfl (H1.out.fin rfl)
      · clear HTT d4
        go_wp2_with ((with_reducible apply wpList_store_kat (c := zk) (hq := HZ.out)); exact rfl; exact rfl; exact rfl; exact rfl)
        exact bodyPost_ret (results_pair Try.results23 rfl rfl (H1.out.out zk).1) rfl (H1.out.fin rfl)
    · clear HTT d3 d4
      go_wp2_with ((with_reducible apply wpList_store_kat (c := zk) (hq := HZ.out)); exact rfl; exact rfl; exact rfl; exact rfl)
      exact bodyPost_ret (results_pair Try.results23 rfl rfl (H1.out.out zk).1) rfl (H1.out.fin rfl)
  · clear HTT d2 d3 d4
    go_wp2_with ((with_reducible apply wpList_store_kat (c := zk) (hq := HZ.out)); exact rfl; exact rfl; exact rfl; exact rfl)
    exact bodyPost_ret (results_pair Try.results23 rfl rfl (H1.out.out zk).1) rfl (H1.out.fin rfl)
end Go.Proofs.Ytodacdooooeofaa
