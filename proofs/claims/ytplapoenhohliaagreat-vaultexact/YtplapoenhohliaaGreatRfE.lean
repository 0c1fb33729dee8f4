import Derived.Test.YtplapoenhohliaaGreatRfC
import Derived.Test.YtplapoenhohliaaGreatStD
namespace Go.Proofs.YtplapoenhohliaaGreat
open Go.RowKit Go.Lib
set_option linter.unusedVariables false
set_option linter.unusedSimpArgs false
set_option maxRecDepth 100000 in
set_option maxHeartbeats 4000000 in
theorem rassign_any (c : Cfg) (x : K) (n : Int) (w : World) : Calls Tryz.prog 91 #[c.V, x.V, .int .i64 n] w (Ans w (assignK c x n)) := by
 have HT := Lib.hid (Thr.new w c x)
 have CG := Lib.hid (fun W => good_any c W)
 by_cases h1 : x.st = 1
 ·have d_h1 : decide (x.st = 1) = true := (by simpa using h1); have n_h1 : (x.st != 1) = false := (by simpa using h1); have q_h1 : (x.st == 1) = true := (by simpa using h1)
  cases h2 : okc c
  ·rw [h2] at CG
   have HR : Hid (_ = (zk, (1 : Int))) := Lib.hid (show assignK c x n = _ from assign_no h1 (fun e => by have := e.1; unfold isB at this; rw [h2, Bool.and_false] at this; cases this))
   go_enter Tryz.func91, Tryz.ntmps91
   go_upto_region 1 with fail
   obtain ⟨W, hW⟩ : ∃ W, ((w.alloc (.cells c.cells 24)).alloc (.cells x.cells 46)).alloc (.cells Z8 46) = W := ⟨_, rfl⟩
   rw [hW] at HT ⊢; clear hW
   generalize w.heap.size + 1 + 1 = q at HT ⊢
   generalize w.heap.size + 1 = p at HT ⊢
   generalize w.heap.size = g at HT ⊢
   have k5 := HT.out.two.at_.get5
   have HC := Lib.hid HT.out.cat
   go_wp2_with ((with_reducible apply wpList_load_cat (h := HC.out)); exact rfl; exact rfl; exact rfl)
   refine (CG.out _).mono ?_
   rintro e w1 ⟨rfl, hb⟩
   have H1 := Lib.hid (HT.out.step hb).two; have k1 := H1.out.at_.get1; have k3 := H1.out.at_.get3; have k4 := H1.out.at_.get4; have k5b := H1.out.at_.get5
   have kc := (HT.out.step hb).cat.get (k := 1) (by omega)
   generalize c.get 1 = yc at *
   clear HT HC hb k5
   go_upto_region 4 with fail
   obtain ⟨z, hz⟩ := H1.out.ans
   have HZ := Lib.hid hz; clear hz
   go_wp2_with ((with_reducible apply wpList_store_kat (c := zk) (hq := HZ.out)); exact rfl; exact rfl; exact rfl; exact rfl)
   exact bodyPost_ret (results_pair Tryz.results91 rfl rfl (H1.out.out zk).1) rfl (H1.out.fin HR.out)
  ·rw [h2] at CG
   by_cases h5 : n < 1
   ·have d_h5 : decide (n < 1) = true := (by simpa using h5); have g_h5 : decide (1 > n) = true := (by simpa using h5)
    have HR : Hid (_ = (zk, (1 : Int))) := Lib.hid (show assignK c x n = _ from assign_no h1 (fun e => by have := e.1; unfold isB at this; rw [decide_eq_false (show ¬ 1 ≤ n by omega)] at this; simp at this))
    go_enter Tryz.func91, Tryz.ntmps91
    go_upto_region 1 with fail
    obtain ⟨W, hW⟩ : ∃ W, ((w.alloc (.cells c.cells 24)).alloc (.cells x.cells 46)).alloc (.cells Z8 46) = W := ⟨_, rfl⟩
    rw [hW] at HT ⊢; clear hW
    generalize w.heap.size + 1 + 1 = q at HT ⊢
    generalize w.heap.size + 1 = p at HT ⊢
    generalize w.heap.size = g at HT ⊢
    have k5 := HT.out.two.at_.get5
    have HC := Lib.hid HT.out.cat
    go_wp2_with ((with_reducible apply wpList_load_cat (h := HC.out)); exact rfl; exact rfl; exact rfl)
    refine (CG.out _).mono ?_
    rintro e w1 ⟨rfl, hb⟩
    have H1 := Lib.hid (HT.out.step hb).two; have k1 := H1.out.at_.get1; have k3 := H1.out.at_.get3; have k4 := H1.out.at_.get4; have k5b := H1.out.at_.get5
    have kc := (HT.out.step hb).cat.get (k := 1) (by omega)
    generalize c.get 1 = yc at *
    clear HT HC hb k5
    go_upto_region 4 with fail
    obtain ⟨z, hz⟩ := H1.out.ans
    have HZ := Lib.hid hz; clear hz
    go_wp2_with ((with_reducible apply wpList_store_kat (c := zk) (hq := HZ.out)); exact rfl; exact rfl; exact rfl; exact rfl)
    exact bodyPost_ret (results_pair Tryz.results91 rfl rfl (H1.out.out zk).1) rfl (H1.out.fin HR.out)
   ·have d_h5 : decide (n < 1) = false := (by simpa using h5); have g_h5 : decide (1 > n) = false := (by simpa using h5)
    by_cases h6 : c.get 1 < n
    ·have d_h6 : decide (c.get 1 < n) = true := (by simpa using h6); have g_h6 : decide (n > c.get 1) = true := (by simpa using h6)
     have HR : Hid (_ = (zk, (1 : Int))) := Lib.hid (show assignK c x n = _ from assign_no h1 (fun e => by have := e.1; unfold isB at this; rw [decide_eq_false (show ¬ n ≤ c.get 1 by omega)] at this; simp at this))
     go_enter Tryz.func91, Tryz.ntmps91
     go_upto_region 1 with fail
     obtain ⟨W, hW⟩ : ∃ W, ((w.alloc (.cells c.cells 24)).alloc (.cells x.cells 46)).alloc (.cells Z8 46) = W := ⟨_, rfl⟩
     rw [hW] at HT ⊢; clear hW
     generalize w.heap.size + 1 + 1 = q at HT ⊢
     generalize w.heap.size + 1 = p at HT ⊢
     generalize w.heap.size = g at HT ⊢
     have k5 := HT.out.two.at_.get5
     have HC := Lib.hid HT.out.cat
     go_wp2_with ((with_reducible apply wpList_load_cat (h := HC.out)); exact rfl; exact rfl; exact rfl)
     refine (CG.out _).mono ?_
     rintro e w1 ⟨rfl, hb⟩
     have H1 := Lib.hid (HT.out.step hb).two; have k1 := H1.out.at_.get1; have k3 := H1.out.at_.get3; have k4 := H1.out.at_.get4; have k5b := H1.out.at_.get5
     have kc := (HT.out.step hb).cat.get (k := 1) (by omega)
     generalize c.get 1 = yc at *
     clear HT HC hb k5
     go_upto_region 4 with fail
     obtain ⟨z, hz⟩ := H1.out.ans
     have HZ := Lib.hid hz; clear hz
     go_wp2_with ((with_reducible apply wpList_store_kat (c := zk) (hq := HZ.out)); exact rfl; exact rfl; exact rfl; exact rfl)
     exact bodyPost_ret (results_pair Tryz.results91 rfl rfl (H1.out.out zk).1) rfl (H1.out.fin HR.out)
    ·have d_h6 : decide (c.get 1 < n) = false := (by simpa using h6); have g_h6 : decide (n > c.get 1) = false := (by simpa using h6)
     by_cases h3 : x.kind = 3
     ·have d_h3 : decide (x.kind = 3) = true := (by simpa using h3); have n_h3 : (x.kind != 3) = false := (by simpa using h3); have q_h3 : (x.kind == 3) = true := (by simpa using h3)
      by_cases h4 : n = x.car
      ·have d_h4 : decide (n = x.car) = true := (by simpa using h4); have n_h4 : (n != x.car) = false := (by simpa using h4); have q_h4 : (n == x.car) = true := (by simpa using h4)
       have HR := Lib.hid (assign_yes h1 (by unfold isB; rw [h2, decide_eq_true (show 1 ≤ n by omega), decide_eq_true (show n ≤ c.get 1 by omega)]; rfl) (fun _ => h4.symm))
       clear h4
       go_enter Tryz.func91, Tryz.ntmps91
       go_upto_region 1 with fail
       obtain ⟨W, hW⟩ : ∃ W, ((w.alloc (.cells c.cells 24)).alloc (.cells x.cells 46)).alloc (.cells Z8 46) = W := ⟨_, rfl⟩
       rw [hW] at HT ⊢; clear hW
       generalize w.heap.size + 1 + 1 = q at HT ⊢
       generalize w.heap.size + 1 = p at HT ⊢
       generalize w.heap.size = g at HT ⊢
       have k5 := HT.out.two.at_.get5
       have HC := Lib.hid HT.out.cat
       go_wp2_with ((with_reducible apply wpList_load_cat (h := HC.out)); exact rfl; exact rfl; exact rfl)
       refine (CG.out _).mono ?_
       rintro e w1 ⟨rfl, hb⟩
       have H1 := Lib.hid (HT.out.step hb).two; have k1 := H1.out.at_.get1; have k3 := H1.out.at_.get3; have k4 := H1.out.at_.get4; have k5b := H1.out.at_.get5
       have kc := (HT.out.step hb).cat.get (k := 1) (by omega)
       generalize c.get 1 = yc at *
       clear HT HC hb k5
       go_upto_region 5 with fail
       have f5 := At.frozen H1.out.at_ 5
       have H2 := Lib.hid (H1.out.set5 2)
       have k4b := H2.out.at_.get4; have f4b := At.frozen H2.out.at_ 4
       have H3 := Lib.hid (H2.out.set4 n); clear H1 H2
       generalize hd : ({ x with st := 2, car := n } : K) = d at H3 HR
       have HA := Lib.hid H3.out.at_
       obtain ⟨z, hz⟩ := H3.out.ans
       have HZ := Lib.hid hz; clear hz hd
       go_wp2_with (first | ((with_reducible apply wpList_load_kat (h := HA.out)); exact rfl; exact rfl; exact rfl) | ((with_reducible apply wpList_store_kat (c := d) (hq := HZ.out)); exact rfl; exact rfl; exact rfl; exact rfl))
       exact bodyPost_ret (results_pair Tryz.results91 rfl rfl (H3.out.out d).1) rfl (H3.out.fin HR.out)
      ·have d_h4 : decide (n = x.car) = false := (by simpa using h4); have n_h4 : (n != x.car) = true := (by simpa using h4); have q_h4 : (n == x.car) = false := (by simpa using h4)
       have HR : Hid (_ = (zk, (1 : Int))) := Lib.hid (show assignK c x n = _ from assign_no h1 (fun e => h4 (e.2 h3).symm))
       go_enter Tryz.func91, Tryz.ntmps91
       go_upto_region 1 with fail
       obtain ⟨W, hW⟩ : ∃ W, ((w.alloc (.cells c.cells 24)).alloc (.cells x.cells 46)).alloc (.cells Z8 46) = W := ⟨_, rfl⟩
       rw [hW] at HT ⊢; clear hW
       generalize w.heap.size + 1 + 1 = q at HT ⊢
       generalize w.heap.size + 1 = p at HT ⊢
       generalize w.heap.size = g at HT ⊢
       have k5 := HT.out.two.at_.get5
       have HC := Lib.hid HT.out.cat
       go_wp2_with ((with_reducible apply wpList_load_cat (h := HC.out)); exact rfl; exact rfl; exact rfl)
       refine (CG.out _).mono ?_
       rintro e w1 ⟨rfl, hb⟩
       have H1 := Lib.hid (HT.out.step hb).two; have k1 := H1.out.at_.get1; have k3 := H1.out.at_.get3; have k4 := H1.out.at_.get4; have k5b := H1.out.at_.get5
       have kc := (HT.out.step hb).cat.get (k := 1) (by omega)
       generalize c.get 1 = yc at *
       clear HT HC hb k5
       go_upto_region 4 with fail
       obtain ⟨z, hz⟩ := H1.out.ans
       have HZ := Lib.hid hz; clear hz
       go_wp2_with ((with_reducible apply wpList_store_kat (c := zk) (hq := HZ.out)); exact rfl; exact rfl; exact rfl; exact rfl)
       exact bodyPost_ret (results_pair Tryz.results91 rfl rfl (H1.out.out zk).1) rfl (H1.out.fin HR.out)
     ·have d_h3 : decide (x.kind = 3) = false := (by simpa using h3); have n_h3 : (x.kind != 3) = true := (by simpa using h3); have q_h3 : (x.kind == 3) = false := (by simpa using h3)
      have HR := Lib.hid (assign_yes h1 (by unfold isB; rw [h2, decide_eq_true (show 1 ≤ n by omega), decide_eq_true (show n ≤ c.get 1 by omega)]; rfl) (fun e => absurd e h3))
      go_enter Tryz.func91, Tryz.ntmps91
      go_upto_region 1 with fail
      obtain ⟨W, hW⟩ : ∃ W, ((w.alloc (.cells c.cells 24)).alloc (.cells x.cells 46)).alloc (.cells Z8 46) = W := ⟨_, rfl⟩
      rw [hW] at HT ⊢; clear hW
      generalize w.heap.size + 1 + 1 = q at HT ⊢
      generalize w.heap.size + 1 = p at HT ⊢
      generalize w.heap.size = g at HT ⊢
      have k5 := HT.out.two.at_.get5
      have HC := Lib.hid HT.out.cat
      go_wp2_with ((with_reducible apply wpList_load_cat (h := HC.out)); exact rfl; exact rfl; exact rfl)
      refine (CG.out _).mono ?_
      rintro e w1 ⟨rfl, hb⟩
      have H1 := Lib.hid (HT.out.step hb).two; have k1 := H1.out.at_.get1; have k3 := H1.out.at_.get3; have k4 := H1.out.at_.get4; have k5b := H1.out.at_.get5
      have kc := (HT.out.step hb).cat.get (k := 1) (by omega)
      generalize c.get 1 = yc at *
      clear HT HC hb k5
      go_upto_region 5 with fail
      have f5 := At.frozen H1.out.at_ 5
      have H2 := Lib.hid (H1.out.set5 2)
      have k4b := H2.out.at_.get4; have f4b := At.frozen H2.out.at_ 4
      have H3 := Lib.hid (H2.out.set4 n); clear H1 H2
      generalize hd : ({ x with st := 2, car := n } : K) = d at H3 HR
      have HA := Lib.hid H3.out.at_
      obtain ⟨z, hz⟩ := H3.out.ans
      have HZ := Lib.hid hz; clear hz hd
      go_wp2_with (first | ((with_reducible apply wpList_load_kat (h := HA.out)); exact rfl; exact rfl; exact rfl) | ((with_reducible apply wpList_store_kat (c := d) (hq := HZ.out)); exact rfl; exact rfl; exact rfl; exact rfl))
      exact bodyPost_ret (results_pair Tryz.results91 rfl rfl (H3.out.out d).1) rfl (H3.out.fin HR.out)
 ·have d_h1 : decide (x.st = 1) = false := (by simpa using h1); have n_h1 : (x.st != 1) = true := (by simpa using h1); have q_h1 : (x.st == 1) = false := (by simpa using h1)
  have HR : Hid (_ = (zk, (7 : Int))) := Lib.hid (show assignK c x n = _ from assign_st h1)
  go_enter Tryz.func91, Tryz.ntmps91
  go_upto_region 1 with fail
  obtain ⟨W, hW⟩ : ∃ W, ((w.alloc (.cells c.cells 24)).alloc (.cells x.cells 46)).alloc (.cells Z8 46) = W := ⟨_, rfl⟩
  rw [hW] at HT ⊢; clear hW
  generalize w.heap.size + 1 + 1 = q at HT ⊢
  generalize w.heap.size + 1 = p at HT ⊢
  generalize w.heap.size = g at HT ⊢
  have k5 := HT.out.two.at_.get5
  have HC := Lib.hid HT.out.cat
  have H1 := Lib.hid HT.out.two
  go_upto_region 2 with fail
  obtain ⟨z, hz⟩ := H1.out.ans
  have HZ := Lib.hid hz; clear hz
  go_wp2_with ((with_reducible apply wpList_store_kat (c := zk) (hq := HZ.out)); exact rfl; exact rfl; exact rfl; exact rfl)
  exact bodyPost_ret (results_pair Tryz.results91 rfl rfl (H1.out.out zk).1) rfl (H1.out.fin HR.out)
end Go.Proofs.YtplapoenhohliaaGreat
namespace Go.Proofs.YtplapoenhohliaaGreat
open Go.RowKit Go.Lib
set_option linter.unusedVariables false
set_option linter.unusedSimpArgs false
theorem isB_fl {c : Cfg} {n : Int} (h : okc c = true) : isB c 0 n = flB c n := by
 unfold isB flB
 rw [h, Bool.and_true]
 congr 1
set_option maxRecDepth 100000 in
set_option maxHeartbeats 4000000 in
theorem rleave_any (c : Cfg) (x : K) (n : Int) (w : World) : Calls Tryz.prog 92 #[c.V, x.V, .int .i64 n] w (Ans w (leaveK c x n)) := by
 have HT := Lib.hid (Thr.new w c x)
 have CG := Lib.hid (fun W => good_any c W)
 have CF := Lib.hid (fun W => rfloor_any c n W)
 by_cases h0 : x.st = 2
 ·have d_h0 : decide (x.st = 2) = true := (by simpa using h0); have n_h0 : (x.st != 2) = false := (by simpa using h0); have q_h0 : (x.st == 2) = true := (by simpa using h0)
  have h1 : ¬ x.st = 3 := by omega
  have d_h1 : decide (x.st = 3) = false := (by simpa using h1); have n_h1 : (x.st != 3) = true := (by simpa using h1); have q_h1 : (x.st == 3) = false := (by simpa using h1)
  cases h2 : okc c
  ·rw [h2] at CG
   have HR : Hid (_ = (zk, (1 : Int))) := Lib.hid (show leaveK c x n = _ from leave_no (.inl h0) (by unfold isB; rw [h2, Bool.and_false]))
   go_enter Tryz.func92, Tryz.ntmps92
   go_upto_region 1 with fail
   obtain ⟨W, hW⟩ : ∃ W, ((w.alloc (.cells c.cells 24)).alloc (.cells x.cells 46)).alloc (.cells Z8 46) = W := ⟨_, rfl⟩
   rw [hW] at HT ⊢; clear hW
   generalize w.heap.size + 1 + 1 = q at HT ⊢
   generalize w.heap.size + 1 = p at HT ⊢
   generalize w.heap.size = g at HT ⊢
   have k5 := HT.out.two.at_.get5
   have HC := Lib.hid HT.out.cat
   go_wp2_with ((with_reducible apply wpList_load_cat (h := HC.out)); exact rfl; exact rfl; exact rfl)
   refine (CG.out _).mono ?_
   rintro e w1 ⟨rfl, hb⟩
   have H1 := Lib.hid (HT.out.step hb).two
   clear HT HC hb k5
   go_upto_region 4 with fail
   obtain ⟨z, hz⟩ := H1.out.ans
   have HZ := Lib.hid hz; clear hz
   go_wp2_with ((with_reducible apply wpList_store_kat (c := zk) (hq := HZ.out)); exact rfl; exact rfl; exact rfl; exact rfl)
   exact bodyPost_ret (results_pair Tryz.results92 rfl rfl (H1.out.out zk).1) rfl (H1.out.fin HR.out)
  ·rw [h2] at CG
   cases h7 : flB c n
   ·rw [h7] at CF
    have HR : Hid (_ = (zk, (1 : Int))) := Lib.hid (show leaveK c x n = _ from leave_no (.inl h0) ((isB_fl h2).trans h7))
    go_enter Tryz.func92, Tryz.ntmps92
    go_upto_region 1 with fail
    obtain ⟨W, hW⟩ : ∃ W, ((w.alloc (.cells c.cells 24)).alloc (.cells x.cells 46)).alloc (.cells Z8 46) = W := ⟨_, rfl⟩
    rw [hW] at HT ⊢; clear hW
    generalize w.heap.size + 1 + 1 = q at HT ⊢
    generalize w.heap.size + 1 = p at HT ⊢
    generalize w.heap.size = g at HT ⊢
    have k5 := HT.out.two.at_.get5
    have HC := Lib.hid HT.out.cat
    go_wp2_with ((with_reducible apply wpList_load_cat (h := HC.out)); exact rfl; exact rfl; exact rfl)
    refine (CG.out _).mono ?_
    rintro e w1 ⟨rfl, hb⟩
    have HT1 := Lib.hid (HT.out.step hb); have HC1 := Lib.hid HT1.out.cat
    clear HT HC hb k5
    go_wp2_with ((with_reducible apply wpList_load_cat (h := HC1.out)); exact rfl; exact rfl; exact rfl)
    refine (CF.out _).mono ?_
    rintro e w2 ⟨rfl, hb⟩
    have H1 := Lib.hid (HT1.out.step hb).two; have k1 := H1.out.at_.get1; have k3 := H1.out.at_.get3; have k4 := H1.out.at_.get4; have k5b := H1.out.at_.get5
    clear HT1 HC1 hb
    go_upto_region 4 with fail
    obtain ⟨z, hz⟩ := H1.out.ans
    have HZ := Lib.hid hz; clear hz
    go_wp2_with ((with_reducible apply wpList_store_kat (c := zk) (hq := HZ.out)); exact rfl; exact rfl; exact rfl; exact rfl)
    exact bodyPost_ret (results_pair Tryz.results92 rfl rfl (H1.out.out zk).1) rfl (H1.out.fin HR.out)
   ·rw [h7] at CF
    have h2b := (isB_fl (n := n) h2).trans h7
    have HR := Lib.hid (leave_waits h0 h2b)
    go_enter Tryz.func92, Tryz.ntmps92
    go_upto_region 1 with fail
    obtain ⟨W, hW⟩ : ∃ W, ((w.alloc (.cells c.cells 24)).alloc (.cells x.cells 46)).alloc (.cells Z8 46) = W := ⟨_, rfl⟩
    rw [hW] at HT ⊢; clear hW
    generalize w.heap.size + 1 + 1 = q at HT ⊢
    generalize w.heap.size + 1 = p at HT ⊢
    generalize w.heap.size = g at HT ⊢
    have k5 := HT.out.two.at_.get5
    have HC := Lib.hid HT.out.cat
    go_wp2_with ((with_reducible apply wpList_load_cat (h := HC.out)); exact rfl; exact rfl; exact rfl)
    refine (CG.out _).mono ?_
    rintro e w1 ⟨rfl, hb⟩
    have HT1 := Lib.hid (HT.out.step hb); have HC1 := Lib.hid HT1.out.cat
    clear HT HC hb k5
    go_wp2_with ((with_reducible apply wpList_load_cat (h := HC1.out)); exact rfl; exact rfl; exact rfl)
    refine (CF.out _).mono ?_
    rintro e w2 ⟨rfl, hb⟩
    have H1 := Lib.hid (HT1.out.step hb).two; have k1 := H1.out.at_.get1; have k3 := H1.out.at_.get3; have k4 := H1.out.at_.get4; have k5b := H1.out.at_.get5
    clear HT1 HC1 hb
    go_upto_region 10 with fail
    have HA := Lib.hid H1.out.at_
    have CE := Lib.hid (fun W => rfree_any x 1 W)
    generalize kfree { x with st := 1 } = d2 at CE HR
    go_wp2_with ((with_reducible apply wpList_load_kat (h := HA.out)); exact rfl; exact rfl; exact rfl)
    refine (CE.out _).mono ?_
    rintro e w3 ⟨rfl, hb⟩
    have H4 := Lib.hid (H1.out.step hb); clear hb H1
    obtain ⟨z, hz⟩ := H4.out.ans
    have HZ := Lib.hid hz; clear hz
    go_wp2_with ((with_reducible apply wpList_store_kat (c := d2) (hq := HZ.out)); exact rfl; exact rfl; exact rfl; exact rfl)
    exact bodyPost_ret (results_pair Tryz.results92 rfl rfl (H4.out.out d2).1) rfl (H4.out.fin HR.out)
 ·have d_h0 : decide (x.st = 2) = false := (by simpa using h0); have n_h0 : (x.st != 2) = true := (by simpa using h0); have q_h0 : (x.st == 2) = false := (by simpa using h0)
  by_cases h1 : x.st = 3
  ·have d_h1 : decide (x.st = 3) = true := (by simpa using h1); have n_h1 : (x.st != 3) = false := (by simpa using h1); have q_h1 : (x.st == 3) = true := (by simpa using h1)
   cases h2 : okc c
   ·rw [h2] at CG
    have HR : Hid (_ = (zk, (1 : Int))) := Lib.hid (show leaveK c x n = _ from leave_no (.inr h1) (by unfold isB; rw [h2, Bool.and_false]))
    go_enter Tryz.func92, Tryz.ntmps92
    go_upto_region 1 with fail
    obtain ⟨W, hW⟩ : ∃ W, ((w.alloc (.cells c.cells 24)).alloc (.cells x.cells 46)).alloc (.cells Z8 46) = W := ⟨_, rfl⟩
    rw [hW] at HT ⊢; clear hW
    generalize w.heap.size + 1 + 1 = q at HT ⊢
    generalize w.heap.size + 1 = p at HT ⊢
    generalize w.heap.size = g at HT ⊢
    have k5 := HT.out.two.at_.get5
    have HC := Lib.hid HT.out.cat
    go_wp2_with ((with_reducible apply wpList_load_cat (h := HC.out)); exact rfl; exact rfl; exact rfl)
    refine (CG.out _).mono ?_
    rintro e w1 ⟨rfl, hb⟩
    have H1 := Lib.hid (HT.out.step hb).two
    clear HT HC hb k5
    go_upto_region 4 with fail
    obtain ⟨z, hz⟩ := H1.out.ans
    have HZ := Lib.hid hz; clear hz
    go_wp2_with ((with_reducible apply wpList_store_kat (c := zk) (hq := HZ.out)); exact rfl; exact rfl; exact rfl; exact rfl)
    exact bodyPost_ret (results_pair Tryz.results92 rfl rfl (H1.out.out zk).1) rfl (H1.out.fin HR.out)
   ·rw [h2] at CG
    cases h7 : flB c n
    ·rw [h7] at CF
     have HR : Hid (_ = (zk, (1 : Int))) := Lib.hid (show leaveK c x n = _ from leave_no (.inr h1) ((isB_fl h2).trans h7))
     go_enter Tryz.func92, Tryz.ntmps92
     go_upto_region 1 with fail
     obtain ⟨W, hW⟩ : ∃ W, ((w.alloc (.cells c.cells 24)).alloc (.cells x.cells 46)).alloc (.cells Z8 46) = W := ⟨_, rfl⟩
     rw [hW] at HT ⊢; clear hW
     generalize w.heap.size + 1 + 1 = q at HT ⊢
     generalize w.heap.size + 1 = p at HT ⊢
     generalize w.heap.size = g at HT ⊢
     have k5 := HT.out.two.at_.get5
     have HC := Lib.hid HT.out.cat
     go_wp2_with ((with_reducible apply wpList_load_cat (h := HC.out)); exact rfl; exact rfl; exact rfl)
     refine (CG.out _).mono ?_
     rintro e w1 ⟨rfl, hb⟩
     have HT1 := Lib.hid (HT.out.step hb); have HC1 := Lib.hid HT1.out.cat
     clear HT HC hb k5
     go_wp2_with ((with_reducible apply wpList_load_cat (h := HC1.out)); exact rfl; exact rfl; exact rfl)
     refine (CF.out _).mono ?_
     rintro e w2 ⟨rfl, hb⟩
     have H1 := Lib.hid (HT1.out.step hb).two; have k1 := H1.out.at_.get1; have k3 := H1.out.at_.get3; have k4 := H1.out.at_.get4; have k5b := H1.out.at_.get5
     clear HT1 HC1 hb
     go_upto_region 4 with fail
     obtain ⟨z, hz⟩ := H1.out.ans
     have HZ := Lib.hid hz; clear hz
     go_wp2_with ((with_reducible apply wpList_store_kat (c := zk) (hq := HZ.out)); exact rfl; exact rfl; exact rfl; exact rfl)
     exact bodyPost_ret (results_pair Tryz.results92 rfl rfl (H1.out.out zk).1) rfl (H1.out.fin HR.out)
    ·rw [h7] at CF
     have h2b := (isB_fl (n := n) h2).trans h7
     by_cases h4 : x.dto = n
     ·have d_h4 : decide (x.dto = n) = true := (by simpa using h4); have n_h4 : (x.dto != n) = false := (by simpa using h4); have q_h4 : (x.dto == n) = true := (by simpa using h4)
      have HR := Lib.hid (show leaveK c x n = ({ x with st := 4 }, 0) from (leave_there h1 h2b h4).trans (if_pos (.inl h1)))
      go_enter Tryz.func92, Tryz.ntmps92
      go_upto_region 1 with fail
      obtain ⟨W, hW⟩ : ∃ W, ((w.alloc (.cells c.cells 24)).alloc (.cells x.cells 46)).alloc (.cells Z8 46) = W := ⟨_, rfl⟩
      rw [hW] at HT ⊢; clear hW
      generalize w.heap.size + 1 + 1 = q at HT ⊢
      generalize w.heap.size + 1 = p at HT ⊢
      generalize w.heap.size = g at HT ⊢
      have k5 := HT.out.two.at_.get5
      have HC := Lib.hid HT.out.cat
      go_wp2_with ((with_reducible apply wpList_load_cat (h := HC.out)); exact rfl; exact rfl; exact rfl)
      refine (CG.out _).mono ?_
      rintro e w1 ⟨rfl, hb⟩
      have HT1 := Lib.hid (HT.out.step hb); have HC1 := Lib.hid HT1.out.cat
      clear HT HC hb k5
      go_wp2_with ((with_reducible apply wpList_load_cat (h := HC1.out)); exact rfl; exact rfl; exact rfl)
      refine (CF.out _).mono ?_
      rintro e w2 ⟨rfl, hb⟩
      have H1 := Lib.hid (HT1.out.step hb).two; have k1 := H1.out.at_.get1; have k3 := H1.out.at_.get3; have k4 := H1.out.at_.get4; have k5b := H1.out.at_.get5
      clear HT1 HC1 hb
      go_upto_region 7 with fail
      have f5 := At.frozen H1.out.at_ 5
      have H3 := Lib.hid (H1.out.set5 4); clear H1
      generalize hd : ({ x with st := 4 } : K) = d at H3 HR
      have HA := Lib.hid H3.out.at_
      obtain ⟨z, hz⟩ := H3.out.ans
      have HZ := Lib.hid hz; clear hz hd
      go_wp2_with (first | ((with_reducible apply wpList_load_kat (h := HA.out)); exact rfl; exact rfl; exact rfl) | ((with_reducible apply wpList_store_kat (c := d) (hq := HZ.out)); exact rfl; exact rfl; exact rfl; exact rfl))
      exact bodyPost_ret (results_pair Tryz.results92 rfl rfl (H3.out.out d).1) rfl (H3.out.fin HR.out)
     ·have d_h4 : decide (x.dto = n) = false := (by simpa using h4); have n_h4 : (x.dto != n) = true := (by simpa using h4); have q_h4 : (x.dto == n) = false := (by simpa using h4)
      have HR := Lib.hid (leave_rode h1 h2b h4)
      go_enter Tryz.func92, Tryz.ntmps92
      go_upto_region 1 with fail
      obtain ⟨W, hW⟩ : ∃ W, ((w.alloc (.cells c.cells 24)).alloc (.cells x.cells 46)).alloc (.cells Z8 46) = W := ⟨_, rfl⟩
      rw [hW] at HT ⊢; clear hW
      generalize w.heap.size + 1 + 1 = q at HT ⊢
      generalize w.heap.size + 1 = p at HT ⊢
      generalize w.heap.size = g at HT ⊢
      have k5 := HT.out.two.at_.get5
      have HC := Lib.hid HT.out.cat
      go_wp2_with ((with_reducible apply wpList_load_cat (h := HC.out)); exact rfl; exact rfl; exact rfl)
      refine (CG.out _).mono ?_
      rintro e w1 ⟨rfl, hb⟩
      have HT1 := Lib.hid (HT.out.step hb); have HC1 := Lib.hid HT1.out.cat
      clear HT HC hb k5
      go_wp2_with ((with_reducible apply wpList_load_cat (h := HC1.out)); exact rfl; exact rfl; exact rfl)
      refine (CF.out _).mono ?_
      rintro e w2 ⟨rfl, hb⟩
      have H1 := Lib.hid (HT1.out.step hb).two; have k1 := H1.out.at_.get1; have k3 := H1.out.at_.get3; have k4 := H1.out.at_.get4; have k5b := H1.out.at_.get5
      clear HT1 HC1 hb
      go_upto_region 9 with fail
      have k2 := H1.out.at_.get2; have f2 := At.frozen H1.out.at_ 2
      have H3 := Lib.hid (H1.out.set2 n); clear H1
      go_upto_region 10 with fail
      obtain ⟨y, hy⟩ : ∃ y : K, ({ x with frm := n } : K) = y := ⟨_, rfl⟩
      have e7 : kfree { x with frm := n, st := 1 } = kfree { y with st := 1 } := by rw [← hy]
      rw [hy] at H3; rw [e7] at HR; clear e7 hy
      have HA := Lib.hid H3.out.at_
      have CE := Lib.hid (fun W => rfree_any y 1 W)
      generalize kfree { y with st := 1 } = d2 at CE HR
      go_wp2_with ((with_reducible apply wpList_load_kat (h := HA.out)); exact rfl; exact rfl; exact rfl)
      refine (CE.out _).mono ?_
      rintro e w3 ⟨rfl, hb⟩
      have H4 := Lib.hid (H3.out.step hb); clear hb H3
      obtain ⟨z, hz⟩ := H4.out.ans
      have HZ := Lib.hid hz; clear hz
      go_wp2_with ((with_reducible apply wpList_store_kat (c := d2) (hq := HZ.out)); exact rfl; exact rfl; exact rfl; exact rfl)
      exact bodyPost_ret (results_pair Tryz.results92 rfl rfl (H4.out.out d2).1) rfl (H4.out.fin HR.out)
  ·have d_h1 : decide (x.st = 3) = false := (by simpa using h1); have n_h1 : (x.st != 3) = true := (by simpa using h1); have q_h1 : (x.st == 3) = false := (by simpa using h1)
   have HR : Hid (_ = (zk, (7 : Int))) := Lib.hid (show leaveK c x n = _ from leave_st (fun e => e.elim h0 h1))
   go_enter Tryz.func92, Tryz.ntmps92
   go_upto_region 1 with fail
   obtain ⟨W, hW⟩ : ∃ W, ((w.alloc (.cells c.cells 24)).alloc (.cells x.cells 46)).alloc (.cells Z8 46) = W := ⟨_, rfl⟩
   rw [hW] at HT ⊢; clear hW
   generalize w.heap.size + 1 + 1 = q at HT ⊢
   generalize w.heap.size + 1 = p at HT ⊢
   generalize w.heap.size = g at HT ⊢
   have k5 := HT.out.two.at_.get5
   have HC := Lib.hid HT.out.cat
   have H1 := Lib.hid HT.out.two
   go_upto_region 2 with fail
   obtain ⟨z, hz⟩ := H1.out.ans
   have HZ := Lib.hid hz; clear hz
   go_wp2_with ((with_reducible apply wpList_store_kat (c := zk) (hq := HZ.out)); exact rfl; exact rfl; exact rfl; exact rfl)
   exact bodyPost_ret (results_pair Tryz.results92 rfl rfl (H1.out.out zk).1) rfl (H1.out.fin HR.out)
end Go.Proofs.YtplapoenhohliaaGreat
