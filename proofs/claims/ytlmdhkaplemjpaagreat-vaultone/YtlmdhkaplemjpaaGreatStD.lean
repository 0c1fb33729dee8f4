/- What asks for the building: Assign, Leave. -/
import Derived.Test.YtlmdhkaplemjpaaGreatStA
namespace Go.Proofs.YtlmdhkaplemjpaaGreat
open Go.RowKit Go.Lib
set_option linter.unusedVariables false
set_option linter.unusedSimpArgs false

def assignK (c : Cfg) (x : K) (n : Int) : K × Int := if x.st = 1 then (if isB c 1 n = true ∧ (x.kind = 3 → x.car = n) then ({ x with st := 2, car := n }, 0) else (zk, 1)) else (zk, 7)
/-- where it stands when its car left -/
def leftK (x : K) (n : Int) : K := if x.st = 3 then kfree { x with frm := n, st := 1 } else kfree { x with st := 1 }
def leaveK (c : Cfg) (x : K) (n : Int) : K × Int := if x.st = 2 ∨ x.st = 3 then (if isB c 0 n = true then (if x.st = 3 ∧ x.dto = n then ({ x with st := 4 }, 0) else (leftK x n, 0)) else (zk, 1)) else (zk, 7)
theorem assign_st {c : Cfg} {x : K} {n : Int} (h : x.st ≠ 1) : assignK c x n = (zk, 7) := if_neg h
theorem assign_no {c : Cfg} {x : K} {n : Int} (h : x.st = 1) (h2 : ¬ (isB c 1 n = true ∧ (x.kind = 3 → x.car = n))) : assignK c x n = (zk, 1) := by
  unfold assignK; rw [if_pos h, if_neg h2]
theorem assign_yes {c : Cfg} {x : K} {n : Int} (h : x.st = 1) (h2 : isB c 1 n = true) (h3 : x.kind = 3 → x.car = n) : assignK c x n = ({ x with st := 2, car := n }, 0) := by
  unfold assignK; rw [if_pos h, if_pos ⟨h2, h3⟩]
theorem leave_st {c : Cfg} {x : K} {n : Int} (h : ¬ (x.st = 2 ∨ x.st = 3)) : leaveK c x n = (zk, 7) := if_neg h
theorem leave_no {c : Cfg} {x : K} {n : Int} (h : x.st = 2 ∨ x.st = 3) (h2 : isB c 0 n = false) : leaveK c x n = (zk, 1) := by
  unfold leaveK; rw [if_pos h, if_neg (by rw [h2]; decide)]
theorem leave_there {c : Cfg} {x : K} {n : Int} (h : x.st = 3) (h2 : isB c 0 n = true) (h3 : x.dto = n) : leaveK c x n = serveK x := by
  unfold leaveK serveK; rw [if_pos (.inr h), if_pos h2, if_pos ⟨h, h3⟩, if_pos (.inl h)]
theorem leave_rode {c : Cfg} {x : K} {n : Int} (h : x.st = 3) (h2 : isB c 0 n = true) (h3 : x.dto ≠ n) : leaveK c x n = (kfree { x with frm := n, st := 1 }, 0) := by
  unfold leaveK leftK; rw [if_pos (.inr h), if_pos h2, if_neg (fun e => h3 e.2), if_pos h]
theorem leave_waits {c : Cfg} {x : K} {n : Int} (h : x.st = 2) (h2 : isB c 0 n = true) : leaveK c x n = (kfree { x with st := 1 }, 0) := by
  have h3 : x.st ≠ 3 := by omega
  unfold leaveK leftK; rw [if_pos (.inl h), if_pos h2, if_neg (fun e => h3 e.1), if_neg h3]
/-- the three blocks of a step: the building, the call, and the answer -/
structure Thr (w W : World) (g p q : Nat) (c : Cfg) (x : K) : Prop where
  cat : CAt W g c
  two : Two w W p q x
  far : g ≠ p
theorem Thr.new (w : World) (c : Cfg) (x : K) : Thr w (((w.alloc (.cells c.cells 24)).alloc (.cells x.cells 46)).alloc (.cells Z8 46)) w.heap.size (w.heap.size + 1) (w.heap.size + 1 + 1) c x := by
  have hs : (w.alloc (.cells c.cells 24)).heap.size = w.heap.size + 1 := by simp
  have h := Two.new (w.alloc (.cells c.cells 24)) x
  rw [hs] at h
  refine ⟨((CAt.new w c).step (below_new _ _)).step (below_new _ _), ⟨(below_new w _).trans (h.bel.mono (by rw [hs]; omega)), ⟨by omega, by omega⟩, h.ne, h.at_, h.ans⟩, by omega⟩
theorem Thr.step {w W W' : World} {g p q : Nat} {c : Cfg} {x : K} (h : Thr w W g p q c x) (hb : Below W.heap.size W W') : Thr w W' g p q c x := ⟨h.cat.step hb, h.two.step hb, h.far⟩
set_option maxRecDepth 100000 in
set_option maxHeartbeats 1000000 in
theorem assign_any (c : Cfg) (x : K) (n : Int) (w : World) : Calls Tryz.prog 110 #[c.V, x.V, .int .i64 n] w (Ans w (assignK c x n)) := by
  have HT := Lib.hid (Thr.new w c x)
  have CB := Lib.hid (fun W => car_any c n W)
  by_cases h1 : x.st = 1
  · have d1 : decide (x.st = 1) = true := (by simpa using h1); have n1 : (x.st != 1) = false := (by simpa using h1); have q1 : (x.st == 1) = true := (by simpa using h1)
    cases h2 : isB c 1 n
    · rw [h2] at CB
      have HR : Hid (_ = (zk, (1 : Int))) := Lib.hid (show assignK c x n = _ from assign_no h1 (fun e => by rw [h2] at e; exact absurd e.1 (by decide)))
      go_enter Tryz.func110, Tryz.ntmps110
      go_upto_region 1 with fail
      obtain ⟨W, hW⟩ : ∃ W, ((w.alloc (.cells c.cells 24)).alloc (.cells x.cells 46)).alloc (.cells Z8 46) = W := ⟨_, rfl⟩
      rw [hW] at HT ⊢; clear hW
      generalize w.heap.size + 1 + 1 = q at HT ⊢
      generalize w.heap.size + 1 = p at HT ⊢
      generalize w.heap.size = g at HT ⊢
      have k5 := HT.out.two.at_.get5
      have HC := Lib.hid HT.out.cat
      go_wp2_with ((with_reducible apply wpList_load_cat (h := HC.out)); exact rfl; exact rfl; exact rfl)
      refine (CB.out _).mono ?_
      rintro e w1 ⟨rfl, hb⟩
      have H1 := Lib.hid (HT.out.step hb).two; have k1 := H1.out.at_.get1; have k3 := H1.out.at_.get3; have k4 := H1.out.at_.get4; have k5b := H1.out.at_.get5
      clear HT HC hb k5
      go_upto_region 4 with fail
      obtain ⟨z, hz⟩ := H1.out.ans
      have HZ := Lib.hid hz; clear hz
      go_wp2_with ((with_reducible apply wpList_store_kat (c := zk) (hq := HZ.out)); exact rfl; exact rfl; exact rfl; exact rfl)
      exact bodyPost_ret (results_pair Tryz.results110 rfl rfl (H1.out.out zk).1) rfl (H1.out.fin HR.out)
    · rw [h2] at CB
      by_cases h3 : x.kind = 3
      · have d3 : decide (x.kind = 3) = true := (by simpa using h3); have n3 : (x.kind != 3) = false := (by simpa using h3); have q3 : (x.kind == 3) = true := (by simpa using h3)
        by_cases h4 : x.car = n
        · have d4 : decide (x.car = n) = true := (by simpa using h4); have n4 : (x.car != n) = false := (by simpa using h4); have q4 : (x.car == n) = true := (by simpa using h4)
          have HR := Lib.hid (assign_yes h1 h2 (fun _ => h4))
          go_enter Tryz.func110, Tryz.ntmps110
          go_upto_region 1 with fail
          obtain ⟨W, hW⟩ : ∃ W, ((w.alloc (.cells c.cells 24)).alloc (.cells x.cells 46)).alloc (.cells Z8 46) = W := ⟨_, rfl⟩
          rw [hW] at HT ⊢; clear hW
          generalize w.heap.size + 1 + 1 = q at HT ⊢
          generalize w.heap.size + 1 = p at HT ⊢
          generalize w.heap.size = g at HT ⊢
          have k5 := HT.out.two.at_.get5
          have HC := Lib.hid HT.out.cat
          go_wp2_with ((with_reducible apply wpList_load_cat (h := HC.out)); exact rfl; exact rfl; exact rfl)
          refine (CB.out _).mono ?_
          rintro e w1 ⟨rfl, hb⟩
          have H1 := Lib.hid (HT.out.step hb).two; have k1 := H1.out.at_.get1; have k3 := H1.out.at_.get3; have k4 := H1.out.at_.get4; have k5b := H1.out.at_.get5
          clear HT HC hb k5
          go_upto_region 5 with fail
          have f5 := At.frozen H1.out.at_ 5
          have H2 := Lib.hid (H1.out.set5 2)
          have k4b := H2.out.at_.get4; have f4b := At.frozen H2.out.at_ 4
          have H3 := Lib.hid (H2.out.set4 n); clear H1 H2
          generalize hd : ({ x with st := 2, car := n } : K) = d at H3 HR
          have HA := Lib.hid H3.out.at_
          obtain ⟨z, hz⟩ := H3.out.ans
          have HZ := Lib.hid hz; clear hz hd
          go_wp2_with (first | ((with_reducible apply wpList_load_kat (h := HA.out)); exact rfl; exact rfl; exact rfl) | ((with_reducible apply wpList_store_kat (c := d) (hq := HZ.out)); exact rfl; exact rfl; exact rfl; exact rfl))
          exact bodyPost_ret (results_pair Tryz.results110 rfl rfl (H3.out.out d).1) rfl (H3.out.fin HR.out)
        · have d4 : decide (x.car = n) = false := (by simpa using h4); have n4 : (x.car != n) = true := (by simpa using h4); have q4 : (x.car == n) = false := (by simpa using h4)
          have HR : Hid (_ = (zk, (1 : Int))) := Lib.hid (show assignK c x n = _ from assign_no h1 (fun e => h4 (e.2 h3)))
          go_enter Tryz.func110, Tryz.ntmps110
          go_upto_region 1 with fail
          obtain ⟨W, hW⟩ : ∃ W, ((w.alloc (.cells c.cells 24)).alloc (.cells x.cells 46)).alloc (.cells Z8 46) = W := ⟨_, rfl⟩
          rw [hW] at HT ⊢; clear hW
          generalize w.heap.size + 1 + 1 = q at HT ⊢
          generalize w.heap.size + 1 = p at HT ⊢
          generalize w.heap.size = g at HT ⊢
          have k5 := HT.out.two.at_.get5
          have HC := Lib.hid HT.out.cat
          go_wp2_with ((with_reducible apply wpList_load_cat (h := HC.out)); exact rfl; exact rfl; exact rfl)
          refine (CB.out _).mono ?_
          rintro e w1 ⟨rfl, hb⟩
          have H1 := Lib.hid (HT.out.step hb).two; have k1 := H1.out.at_.get1; have k3 := H1.out.at_.get3; have k4 := H1.out.at_.get4; have k5b := H1.out.at_.get5
          clear HT HC hb k5
          go_upto_region 4 with fail
          obtain ⟨z, hz⟩ := H1.out.ans
          have HZ := Lib.hid hz; clear hz
          go_wp2_with ((with_reducible apply wpList_store_kat (c := zk) (hq := HZ.out)); exact rfl; exact rfl; exact rfl; exact rfl)
          exact bodyPost_ret (results_pair Tryz.results110 rfl rfl (H1.out.out zk).1) rfl (H1.out.fin HR.out)
      · have d3 : decide (x.kind = 3) = false := (by simpa using h3); have n3 : (x.kind != 3) = true := (by simpa using h3); have q3 : (x.kind == 3) = false := (by simpa using h3)
        have HR := Lib.hid (assign_yes h1 h2 (fun e => absurd e h3))
        go_enter Tryz.func110, Tryz.ntmps110
        go_upto_region 1 with fail
        obtain ⟨W, hW⟩ : ∃ W, ((w.alloc (.cells c.cells 24)).alloc (.cells x.cells 46)).alloc (.cells Z8 46) = W := ⟨_, rfl⟩
        rw [hW] at HT ⊢; clear hW
        generalize w.heap.size + 1 + 1 = q at HT ⊢
        generalize w.heap.size + 1 = p at HT ⊢
        generalize w.heap.size = g at HT ⊢
        have k5 := HT.out.two.at_.get5
        have HC := Lib.hid HT.out.cat
        go_wp2_with ((with_reducible apply wpList_load_cat (h := HC.out)); exact rfl; exact rfl; exact rfl)
        refine (CB.out _).mono ?_
        rintro e w1 ⟨rfl, hb⟩
        have H1 := Lib.hid (HT.out.step hb).two; have k1 := H1.out.at_.get1; have k3 := H1.out.at_.get3; have k4 := H1.out.at_.get4; have k5b := H1.out.at_.get5
        clear HT HC hb k5
        go_upto_region 5 with fail
        have f5 := At.frozen H1.out.at_ 5
        have H2 := Lib.hid (H1.out.set5 2)
        have k4b := H2.out.at_.get4; have f4b := At.frozen H2.out.at_ 4
        have H3 := Lib.hid (H2.out.set4 n); clear H1 H2
        generalize hd : ({ x with st := 2, car := n } : K) = d at H3 HR
        have HA := Lib.hid H3.out.at_
        obtain ⟨z, hz⟩ := H3.out.ans
        have HZ := Lib.hid hz; clear hz hd
        go_wp2_with (first | ((with_reducible apply wpList_load_kat (h := HA.out)); exact rfl; exact rfl; exact rfl) | ((with_reducible apply wpList_store_kat (c := d) (hq := HZ.out)); exact rfl; exact rfl; exact rfl; exact rfl))
        exact bodyPost_ret (results_pair Tryz.results110 rfl rfl (H3.out.out d).1) rfl (H3.out.fin HR.out)
  · have d1 : decide (x.st = 1) = false := (by simpa using h1); have n1 : (x.st != 1) = true := (by simpa using h1); have q1 : (x.st == 1) = false := (by simpa using h1)
    have HR : Hid (_ = (zk, (7 : Int))) := Lib.hid (show assignK c x n = _ from assign_st h1)
    go_enter Tryz.func110, Tryz.ntmps110
    go_upto_region 1 with fail
    obtain ⟨W, hW⟩ : ∃ W, ((w.alloc (.cells c.cells 24)).alloc (.cells x.cells 46)).alloc (.cells Z8 46) = W := ⟨_, rfl⟩
    rw [hW] at HT ⊢; clear hW
    generalize w.heap.size + 1 + 1 = q at HT ⊢
    generalize w.heap.size + 1 = p at HT ⊢
    generalize w.heap.size = g at HT ⊢
    have k5 := HT.out.two.at_.get5
    have HC := Lib.hid HT.out.cat
    obtain ⟨z, hz⟩ := HT.out.two.ans
    have HZ := Lib.hid hz; clear hz
    go_wp2_with ((with_reducible apply wpList_store_kat (c := zk) (hq := HZ.out)); exact rfl; exact rfl; exact rfl; exact rfl)
    exact bodyPost_ret (results_pair Tryz.results110 rfl rfl (HT.out.two.out zk).1) rfl (HT.out.two.fin HR.out)
end Go.Proofs.YtlmdhkaplemjpaaGreat
/- What asks for the building: Leave. -/
namespace Go.Proofs.YtlmdhkaplemjpaaGreat
open Go.RowKit Go.Lib
set_option linter.unusedVariables false
set_option linter.unusedSimpArgs false

set_option maxRecDepth 100000 in
set_option maxHeartbeats 1000000 in
theorem leave_any (c : Cfg) (x : K) (n : Int) (w : World) : Calls Tryz.prog 112 #[c.V, x.V, .int .i64 n] w (Ans w (leaveK c x n)) := by
  have HT := Lib.hid (Thr.new w c x)
  have CB := Lib.hid (fun W => floor_any c n W)
  by_cases h2 : x.st = 2
  · have d2 : decide (x.st = 2) = true := (by simpa using h2); have n2 : (x.st != 2) = false := (by simpa using h2); have q2 : (x.st == 2) = true := (by simpa using h2)
    have h3 : x.st ≠ 3 := by omega
    have d3 : decide (x.st = 3) = false := (by simpa using h3); have n3 : (x.st != 3) = true := (by simpa using h3); have q3 : (x.st == 3) = false := (by simpa using h3)
    cases h4 : isB c 0 n
    · rw [h4] at CB
      have HR : Hid (_ = (zk, (1 : Int))) := Lib.hid (show leaveK c x n = _ from leave_no (.inl h2) h4)
      go_enter Tryz.func112, Tryz.ntmps112
      go_upto_region 1 with fail
      obtain ⟨W, hW⟩ : ∃ W, ((w.alloc (.cells c.cells 24)).alloc (.cells x.cells 46)).alloc (.cells Z8 46) = W := ⟨_, rfl⟩
      rw [hW] at HT ⊢; clear hW
      generalize w.heap.size + 1 + 1 = q at HT ⊢
      generalize w.heap.size + 1 = p at HT ⊢
      generalize w.heap.size = g at HT ⊢
      have k5 := HT.out.two.at_.get5
      have HC := Lib.hid HT.out.cat
      go_wp2_with ((with_reducible apply wpList_load_cat (h := HC.out)); exact rfl; exact rfl; exact rfl)
      refine (CB.out _).mono ?_
      rintro e w1 ⟨rfl, hb⟩
      have H1 := Lib.hid (HT.out.step hb).two; have k1 := H1.out.at_.get1; have k3 := H1.out.at_.get3; have k4 := H1.out.at_.get4; have k5b := H1.out.at_.get5
      clear HT HC hb k5
      go_upto_region 4 with fail
      obtain ⟨z, hz⟩ := H1.out.ans
      have HZ := Lib.hid hz; clear hz
      go_wp2_with ((with_reducible apply wpList_store_kat (c := zk) (hq := HZ.out)); exact rfl; exact rfl; exact rfl; exact rfl)
      exact bodyPost_ret (results_pair Tryz.results112 rfl rfl (H1.out.out zk).1) rfl (H1.out.fin HR.out)
    · rw [h4] at CB
      have HR := Lib.hid (leave_waits h2 h4)
      go_enter Tryz.func112, Tryz.ntmps112
      go_upto_region 1 with fail
      obtain ⟨W, hW⟩ : ∃ W, ((w.alloc (.cells c.cells 24)).alloc (.cells x.cells 46)).alloc (.cells Z8 46) = W := ⟨_, rfl⟩
      rw [hW] at HT ⊢; clear hW
      generalize w.heap.size + 1 + 1 = q at HT ⊢
      generalize w.heap.size + 1 = p at HT ⊢
      generalize w.heap.size = g at HT ⊢
      have k5 := HT.out.two.at_.get5
      have HC := Lib.hid HT.out.cat
      go_wp2_with ((with_reducible apply wpList_load_cat (h := HC.out)); exact rfl; exact rfl; exact rfl)
      refine (CB.out _).mono ?_
      rintro e w1 ⟨rfl, hb⟩
      have H1 := Lib.hid (HT.out.step hb).two; have k1 := H1.out.at_.get1; have k3 := H1.out.at_.get3; have k4 := H1.out.at_.get4; have k5b := H1.out.at_.get5
      clear HT HC hb k5
      go_upto_region 9 with fail
      have f5 := At.frozen H1.out.at_ 5
      have H3 := Lib.hid (H1.out.set5 1); clear H1
      generalize hd : ({ x with st := 1 } : K) = d at H3 HR
      have HA := Lib.hid H3.out.at_
      have CF := Lib.hid (fun W => free_any d W)
      generalize kfree d = d2 at CF HR
      clear CB hd
      go_wp2_with ((with_reducible apply wpList_load_kat (h := HA.out)); exact rfl; exact rfl; exact rfl)
      refine (CF.out _).mono ?_
      rintro e w2 ⟨rfl, hb⟩
      have H4 := Lib.hid (H3.out.step hb); clear hb H3 HA
      obtain ⟨z, hz⟩ := H4.out.ans
      have HZ := Lib.hid hz; clear hz
      go_wp2_with ((with_reducible apply wpList_store_kat (c := d2) (hq := HZ.out)); exact rfl; exact rfl; exact rfl; exact rfl)
      exact bodyPost_ret (results_pair Tryz.results112 rfl rfl (H4.out.out d2).1) rfl (H4.out.fin HR.out)
  · have d2 : decide (x.st = 2) = false := (by simpa using h2); have n2 : (x.st != 2) = true := (by simpa using h2); have q2 : (x.st == 2) = false := (by simpa using h2)
    by_cases h3 : x.st = 3
    · have d3 : decide (x.st = 3) = true := (by simpa using h3); have n3 : (x.st != 3) = false := (by simpa using h3); have q3 : (x.st == 3) = true := (by simpa using h3)
      cases h4 : isB c 0 n
      · rw [h4] at CB
        have HR : Hid (_ = (zk, (1 : Int))) := Lib.hid (show leaveK c x n = _ from leave_no (.inr h3) h4)
        go_enter Tryz.func112, Tryz.ntmps112
        go_upto_region 1 with fail
        obtain ⟨W, hW⟩ : ∃ W, ((w.alloc (.cells c.cells 24)).alloc (.cells x.cells 46)).alloc (.cells Z8 46) = W := ⟨_, rfl⟩
        rw [hW] at HT ⊢; clear hW
        generalize w.heap.size + 1 + 1 = q at HT ⊢
        generalize w.heap.size + 1 = p at HT ⊢
        generalize w.heap.size = g at HT ⊢
        have k5 := HT.out.two.at_.get5
        have HC := Lib.hid HT.out.cat
        go_wp2_with ((with_reducible apply wpList_load_cat (h := HC.out)); exact rfl; exact rfl; exact rfl)
        refine (CB.out _).mono ?_
        rintro e w1 ⟨rfl, hb⟩
        have H1 := Lib.hid (HT.out.step hb).two; have k1 := H1.out.at_.get1; have k3 := H1.out.at_.get3; have k4 := H1.out.at_.get4; have k5b := H1.out.at_.get5
        clear HT HC hb k5
        go_upto_region 4 with fail
        obtain ⟨z, hz⟩ := H1.out.ans
        have HZ := Lib.hid hz; clear hz
        go_wp2_with ((with_reducible apply wpList_store_kat (c := zk) (hq := HZ.out)); exact rfl; exact rfl; exact rfl; exact rfl)
        exact bodyPost_ret (results_pair Tryz.results112 rfl rfl (H1.out.out zk).1) rfl (H1.out.fin HR.out)
      · rw [h4] at CB
        by_cases h5 : x.dto = n
        · have d5 : decide (x.dto = n) = true := (by simpa using h5); have n5 : (x.dto != n) = false := (by simpa using h5); have q5 : (x.dto == n) = true := (by simpa using h5)
          have HR := Lib.hid (leave_there h3 h4 h5)
          go_enter Tryz.func112, Tryz.ntmps112
          go_upto_region 1 with fail
          obtain ⟨W, hW⟩ : ∃ W, ((w.alloc (.cells c.cells 24)).alloc (.cells x.cells 46)).alloc (.cells Z8 46) = W := ⟨_, rfl⟩
          rw [hW] at HT ⊢; clear hW
          generalize w.heap.size + 1 + 1 = q at HT ⊢
          generalize w.heap.size + 1 = p at HT ⊢
          generalize w.heap.size = g at HT ⊢
          have k5 := HT.out.two.at_.get5
          have HC := Lib.hid HT.out.cat
          go_wp2_with ((with_reducible apply wpList_load_cat (h := HC.out)); exact rfl; exact rfl; exact rfl)
          refine (CB.out _).mono ?_
          rintro e w1 ⟨rfl, hb⟩
          have H1 := Lib.hid (HT.out.step hb).two; have k1 := H1.out.at_.get1; have k3 := H1.out.at_.get3; have k4 := H1.out.at_.get4; have k5b := H1.out.at_.get5
          clear HT HC hb k5
          go_upto_region 6 with fail
          have HA := Lib.hid H1.out.at_
          have CF := Lib.hid (fun W => serve_any x W)
          generalize serveK x = r at CF HR
          clear CB
          go_wp2_with ((with_reducible apply wpList_load_kat (h := HA.out)); exact rfl; exact rfl; exact rfl)
          refine (CF.out _).mono ?_
          rintro e w2 ⟨rfl, hb⟩
          have H4 := Lib.hid (H1.out.step hb); clear hb H1 HA
          obtain ⟨d, m⟩ := r
          obtain ⟨z, hz⟩ := H4.out.ans
          have HZ := Lib.hid hz; clear hz
          go_wp2_with ((with_reducible apply wpList_store_kat (c := d) (hq := HZ.out)); exact rfl; exact rfl; exact rfl; exact rfl)
          exact bodyPost_ret (results_pair Tryz.results112 rfl rfl (H4.out.out d).1) rfl (H4.out.fin HR.out)
        · have d5 : decide (x.dto = n) = false := (by simpa using h5); have n5 : (x.dto != n) = true := (by simpa using h5); have q5 : (x.dto == n) = false := (by simpa using h5)
          have HR := Lib.hid (leave_rode h3 h4 h5)
          go_enter Tryz.func112, Tryz.ntmps112
          go_upto_region 1 with fail
          obtain ⟨W, hW⟩ : ∃ W, ((w.alloc (.cells c.cells 24)).alloc (.cells x.cells 46)).alloc (.cells Z8 46) = W := ⟨_, rfl⟩
          rw [hW] at HT ⊢; clear hW
          generalize w.heap.size + 1 + 1 = q at HT ⊢
          generalize w.heap.size + 1 = p at HT ⊢
          generalize w.heap.size = g at HT ⊢
          have k5 := HT.out.two.at_.get5
          have HC := Lib.hid HT.out.cat
          go_wp2_with ((with_reducible apply wpList_load_cat (h := HC.out)); exact rfl; exact rfl; exact rfl)
          refine (CB.out _).mono ?_
          rintro e w1 ⟨rfl, hb⟩
          have H1 := Lib.hid (HT.out.step hb).two; have k1 := H1.out.at_.get1; have k3 := H1.out.at_.get3; have k4 := H1.out.at_.get4; have k5b := H1.out.at_.get5
          clear HT HC hb k5
          go_upto_region 8 with fail
          have k2 := H1.out.at_.get2; have f2 := At.frozen H1.out.at_ 2
          have H2 := Lib.hid (H1.out.set2 n)
          have k5b := H2.out.at_.get5; have f5b := At.frozen H2.out.at_ 5
          have H3 := Lib.hid (H2.out.set5 1); clear H1 H2
          generalize hd : ({ x with frm := n, st := 1 } : K) = d at H3 HR
          have HA := Lib.hid H3.out.at_
          have CF := Lib.hid (fun W => free_any d W)
          generalize kfree d = d2 at CF HR
          clear CB hd
          go_wp2_with ((with_reducible apply wpList_load_kat (h := HA.out)); exact rfl; exact rfl; exact rfl)
          refine (CF.out _).mono ?_
          rintro e w2 ⟨rfl, hb⟩
          have H4 := Lib.hid (H3.out.step hb); clear hb H3 HA
          obtain ⟨z, hz⟩ := H4.out.ans
          have HZ := Lib.hid hz; clear hz
          go_wp2_with ((with_reducible apply wpList_store_kat (c := d2) (hq := HZ.out)); exact rfl; exact rfl; exact rfl; exact rfl)
          exact bodyPost_ret (results_pair Tryz.results112 rfl rfl (H4.out.out d2).1) rfl (H4.out.fin HR.out)
    · have d3 : decide (x.st = 3) = false := (by simpa using h3); have n3 : (x.st != 3) = true := (by simpa using h3); have q3 : (x.st == 3) = false := (by simpa using h3)
      have HR : Hid (_ = (zk, (7 : Int))) := Lib.hid (show leaveK c x n = _ from leave_st (fun h => h.elim h2 h3))
      go_enter Tryz.func112, Tryz.ntmps112
      go_upto_region 1 with fail
      obtain ⟨W, hW⟩ : ∃ W, ((w.alloc (.cells c.cells 24)).alloc (.cells x.cells 46)).alloc (.cells Z8 46) = W := ⟨_, rfl⟩
      rw [hW] at HT ⊢; clear hW
      generalize w.heap.size + 1 + 1 = q at HT ⊢
      generalize w.heap.size + 1 = p at HT ⊢
      generalize w.heap.size = g at HT ⊢
      have k5 := HT.out.two.at_.get5
      have HC := Lib.hid HT.out.cat
      obtain ⟨z, hz⟩ := HT.out.two.ans
      have HZ := Lib.hid hz; clear hz
      go_wp2_with ((with_reducible apply wpList_store_kat (c := zk) (hq := HZ.out)); exact rfl; exact rfl; exact rfl; exact rfl)
      exact bodyPost_ret (results_pair Tryz.results112 rfl rfl (HT.out.two.out zk).1) rfl (HT.out.two.fin HR.out)
end Go.Proofs.YtlmdhkaplemjpaaGreat
