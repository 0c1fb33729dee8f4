import Derived.Test.YtplapoenhohliaaGreatRfB
namespace Go.Proofs.YtplapoenhohliaaGreat
open Go.RowKit Go.Lib
set_option linter.unusedVariables false
set_option linter.unusedSimpArgs false
set_option maxRecDepth 100000 in
set_option maxHeartbeats 4000000 in
theorem rends1_any (x : K) (w : World) : Calls Tryz.prog 90 #[x.V, .int .i64 1] w (Ans w (boardK x)) := by
 have HT := Lib.hid (Two.new w x)
 by_cases h2 : x.kind = 4
 ·have d_h2 : decide (x.kind = 4) = true := (by simpa using h2); have n_h2 : (x.kind != 4) = false := (by simpa using h2); have q_h2 : (x.kind == 4) = true := (by simpa using h2)
  by_cases h1 : x.st = 2
  ·have d_h1 : decide (x.st = 2) = true := (by simpa using h1); have n_h1 : (x.st != 2) = false := (by simpa using h1); have q_h1 : (x.st == 2) = true := (by simpa using h1)
   have HR := Lib.hid (show boardK x = ({ x with st := 3 }, 0) from if_pos ⟨h1, h2⟩)
   go_enter Tryz.func90, Tryz.ntmps90
   go_upto_region 1 with fail
   obtain ⟨W, hW⟩ : ∃ W, (w.alloc (.cells x.cells 46)).alloc (.cells Z8 46) = W := ⟨_, rfl⟩
   rw [hW] at HT ⊢; clear hW
   generalize w.heap.size + 1 = q at HT ⊢
   generalize w.heap.size = p at HT ⊢
   have k1 := HT.out.at_.get1; have k5 := HT.out.at_.get5; have f5 := At.frozen HT.out.at_ 5
   have HT2 := Lib.hid (HT.out.set5 3); clear HT
   generalize hd : ({ x with st := 3 } : K) = d at HT2 HR
   have HA := Lib.hid HT2.out.at_
   obtain ⟨z, hz⟩ := HT2.out.ans
   have HZ := Lib.hid hz; clear hz hd
   go_upto_region 5 with fail
   go_wp2_with (first | ((with_reducible apply wpList_load_kat (h := HA.out)); exact rfl; exact rfl; exact rfl) | ((with_reducible apply wpList_store_kat (c := d) (hq := HZ.out)); exact rfl; exact rfl; exact rfl; exact rfl))
   exact bodyPost_ret (results_pair Tryz.results90 rfl rfl (HT2.out.out d).1) rfl (HT2.out.fin HR.out)
  ·have d_h1 : decide (x.st = 2) = false := (by simpa using h1); have n_h1 : (x.st != 2) = true := (by simpa using h1); have q_h1 : (x.st == 2) = false := (by simpa using h1)
   have HR : Hid (_ = (zk, (7 : Int))) := Lib.hid (show boardK x = _ from if_neg (fun h => h1 h.1))
   go_enter Tryz.func90, Tryz.ntmps90
   go_upto_region 1 with fail
   obtain ⟨W, hW⟩ : ∃ W, (w.alloc (.cells x.cells 46)).alloc (.cells Z8 46) = W := ⟨_, rfl⟩
   rw [hW] at HT ⊢; clear hW
   generalize w.heap.size + 1 = q at HT ⊢
   generalize w.heap.size = p at HT ⊢
   have k1 := HT.out.at_.get1; have k5 := HT.out.at_.get5; have f5 := At.frozen HT.out.at_ 5
   obtain ⟨z, hz⟩ := HT.out.ans
   have HZ := Lib.hid hz; clear hz
   go_upto_region 18 with fail
   go_wp2_with ((with_reducible apply wpList_store_kat (c := zk) (hq := HZ.out)); exact rfl; exact rfl; exact rfl; exact rfl)
   exact bodyPost_ret (results_pair Tryz.results90 rfl rfl (HT.out.out zk).1) rfl (HT.out.fin HR.out)
 ·have d_h2 : decide (x.kind = 4) = false := (by simpa using h2); have n_h2 : (x.kind != 4) = true := (by simpa using h2); have q_h2 : (x.kind == 4) = false := (by simpa using h2)
  by_cases h1 : x.st = 2
  ·have d_h1 : decide (x.st = 2) = true := (by simpa using h1); have n_h1 : (x.st != 2) = false := (by simpa using h1); have q_h1 : (x.st == 2) = true := (by simpa using h1)
   have HR : Hid (_ = (zk, (7 : Int))) := Lib.hid (show boardK x = _ from if_neg (fun h => h2 h.2))
   go_enter Tryz.func90, Tryz.ntmps90
   go_upto_region 1 with fail
   obtain ⟨W, hW⟩ : ∃ W, (w.alloc (.cells x.cells 46)).alloc (.cells Z8 46) = W := ⟨_, rfl⟩
   rw [hW] at HT ⊢; clear hW
   generalize w.heap.size + 1 = q at HT ⊢
   generalize w.heap.size = p at HT ⊢
   have k1 := HT.out.at_.get1; have k5 := HT.out.at_.get5; have f5 := At.frozen HT.out.at_ 5
   obtain ⟨z, hz⟩ := HT.out.ans
   have HZ := Lib.hid hz; clear hz
   go_upto_region 18 with fail
   go_wp2_with ((with_reducible apply wpList_store_kat (c := zk) (hq := HZ.out)); exact rfl; exact rfl; exact rfl; exact rfl)
   exact bodyPost_ret (results_pair Tryz.results90 rfl rfl (HT.out.out zk).1) rfl (HT.out.fin HR.out)
  ·have d_h1 : decide (x.st = 2) = false := (by simpa using h1); have n_h1 : (x.st != 2) = true := (by simpa using h1); have q_h1 : (x.st == 2) = false := (by simpa using h1)
   have HR : Hid (_ = (zk, (7 : Int))) := Lib.hid (show boardK x = _ from if_neg (fun h => h1 h.1))
   go_enter Tryz.func90, Tryz.ntmps90
   go_upto_region 1 with fail
   obtain ⟨W, hW⟩ : ∃ W, (w.alloc (.cells x.cells 46)).alloc (.cells Z8 46) = W := ⟨_, rfl⟩
   rw [hW] at HT ⊢; clear hW
   generalize w.heap.size + 1 = q at HT ⊢
   generalize w.heap.size = p at HT ⊢
   have k1 := HT.out.at_.get1; have k5 := HT.out.at_.get5; have f5 := At.frozen HT.out.at_ 5
   obtain ⟨z, hz⟩ := HT.out.ans
   have HZ := Lib.hid hz; clear hz
   go_upto_region 18 with fail
   go_wp2_with ((with_reducible apply wpList_store_kat (c := zk) (hq := HZ.out)); exact rfl; exact rfl; exact rfl; exact rfl)
   exact bodyPost_ret (results_pair Tryz.results90 rfl rfl (HT.out.out zk).1) rfl (HT.out.fin HR.out)
set_option maxRecDepth 100000 in
set_option maxHeartbeats 4000000 in
theorem rends2_any (x : K) (w : World) : Calls Tryz.prog 90 #[x.V, .int .i64 2] w (Ans w (serveK x)) := by
 have HT := Lib.hid (Two.new w x)
 by_cases h3 : x.kind = 4
 ·have d_h3 : decide (x.kind = 4) = true := (by simpa using h3); have n_h3 : (x.kind != 4) = false := (by simpa using h3); have q_h3 : (x.kind == 4) = true := (by simpa using h3)
  by_cases h1 : x.st = 3
  ·have d_h1 : decide (x.st = 3) = true := (by simpa using h1); have n_h1 : (x.st != 3) = false := (by simpa using h1); have q_h1 : (x.st == 3) = true := (by simpa using h1)
   have HR := Lib.hid (show serveK x = ({ x with st := 4 }, 0) from if_pos (.inl h1))
   go_enter Tryz.func90, Tryz.ntmps90
   go_upto_region 1 with fail
   obtain ⟨W, hW⟩ : ∃ W, (w.alloc (.cells x.cells 46)).alloc (.cells Z8 46) = W := ⟨_, rfl⟩
   rw [hW] at HT ⊢; clear hW
   generalize w.heap.size + 1 = q at HT ⊢
   generalize w.heap.size = p at HT ⊢
   have k1 := HT.out.at_.get1; have k5 := HT.out.at_.get5; have f5 := At.frozen HT.out.at_ 5
   have HT2 := Lib.hid (HT.out.set5 4); clear HT
   generalize hd : ({ x with st := 4 } : K) = d at HT2 HR
   have HA := Lib.hid HT2.out.at_
   obtain ⟨z, hz⟩ := HT2.out.ans
   have HZ := Lib.hid hz; clear hz hd
   go_upto_region 9 with fail
   go_wp2_with (first | ((with_reducible apply wpList_load_kat (h := HA.out)); exact rfl; exact rfl; exact rfl) | ((with_reducible apply wpList_store_kat (c := d) (hq := HZ.out)); exact rfl; exact rfl; exact rfl; exact rfl))
   exact bodyPost_ret (results_pair Tryz.results90 rfl rfl (HT2.out.out d).1) rfl (HT2.out.fin HR.out)
  ·have d_h1 : decide (x.st = 3) = false := (by simpa using h1); have n_h1 : (x.st != 3) = true := (by simpa using h1); have q_h1 : (x.st == 3) = false := (by simpa using h1)
   by_cases h2 : x.st = 2
   ·have d_h2 : decide (x.st = 2) = true := (by simpa using h2); have n_h2 : (x.st != 2) = false := (by simpa using h2); have q_h2 : (x.st == 2) = true := (by simpa using h2)
    have HR : Hid (_ = (zk, (7 : Int))) := Lib.hid (show serveK x = _ from if_neg (fun h => h.elim h1 (fun h => h.2 h3)))
    go_enter Tryz.func90, Tryz.ntmps90
    go_upto_region 1 with fail
    obtain ⟨W, hW⟩ : ∃ W, (w.alloc (.cells x.cells 46)).alloc (.cells Z8 46) = W := ⟨_, rfl⟩
    rw [hW] at HT ⊢; clear hW
    generalize w.heap.size + 1 = q at HT ⊢
    generalize w.heap.size = p at HT ⊢
    have k1 := HT.out.at_.get1; have k5 := HT.out.at_.get5; have f5 := At.frozen HT.out.at_ 5
    obtain ⟨z, hz⟩ := HT.out.ans
    have HZ := Lib.hid hz; clear hz
    go_upto_region 18 with fail
    go_wp2_with ((with_reducible apply wpList_store_kat (c := zk) (hq := HZ.out)); exact rfl; exact rfl; exact rfl; exact rfl)
    exact bodyPost_ret (results_pair Tryz.results90 rfl rfl (HT.out.out zk).1) rfl (HT.out.fin HR.out)
   ·have d_h2 : decide (x.st = 2) = false := (by simpa using h2); have n_h2 : (x.st != 2) = true := (by simpa using h2); have q_h2 : (x.st == 2) = false := (by simpa using h2)
    have HR : Hid (_ = (zk, (7 : Int))) := Lib.hid (show serveK x = _ from if_neg (fun h => h.elim h1 (fun h => h2 h.1)))
    go_enter Tryz.func90, Tryz.ntmps90
    go_upto_region 1 with fail
    obtain ⟨W, hW⟩ : ∃ W, (w.alloc (.cells x.cells 46)).alloc (.cells Z8 46) = W := ⟨_, rfl⟩
    rw [hW] at HT ⊢; clear hW
    generalize w.heap.size + 1 = q at HT ⊢
    generalize w.heap.size = p at HT ⊢
    have k1 := HT.out.at_.get1; have k5 := HT.out.at_.get5; have f5 := At.frozen HT.out.at_ 5
    obtain ⟨z, hz⟩ := HT.out.ans
    have HZ := Lib.hid hz; clear hz
    go_upto_region 18 with fail
    go_wp2_with ((with_reducible apply wpList_store_kat (c := zk) (hq := HZ.out)); exact rfl; exact rfl; exact rfl; exact rfl)
    exact bodyPost_ret (results_pair Tryz.results90 rfl rfl (HT.out.out zk).1) rfl (HT.out.fin HR.out)
 ·have d_h3 : decide (x.kind = 4) = false := (by simpa using h3); have n_h3 : (x.kind != 4) = true := (by simpa using h3); have q_h3 : (x.kind == 4) = false := (by simpa using h3)
  by_cases h1 : x.st = 3
  ·have d_h1 : decide (x.st = 3) = true := (by simpa using h1); have n_h1 : (x.st != 3) = false := (by simpa using h1); have q_h1 : (x.st == 3) = true := (by simpa using h1)
   have HR := Lib.hid (show serveK x = ({ x with st := 4 }, 0) from if_pos (.inl h1))
   go_enter Tryz.func90, Tryz.ntmps90
   go_upto_region 1 with fail
   obtain ⟨W, hW⟩ : ∃ W, (w.alloc (.cells x.cells 46)).alloc (.cells Z8 46) = W := ⟨_, rfl⟩
   rw [hW] at HT ⊢; clear hW
   generalize w.heap.size + 1 = q at HT ⊢
   generalize w.heap.size = p at HT ⊢
   have k1 := HT.out.at_.get1; have k5 := HT.out.at_.get5; have f5 := At.frozen HT.out.at_ 5
   have HT2 := Lib.hid (HT.out.set5 4); clear HT
   generalize hd : ({ x with st := 4 } : K) = d at HT2 HR
   have HA := Lib.hid HT2.out.at_
   obtain ⟨z, hz⟩ := HT2.out.ans
   have HZ := Lib.hid hz; clear hz hd
   go_upto_region 9 with fail
   go_wp2_with (first | ((with_reducible apply wpList_load_kat (h := HA.out)); exact rfl; exact rfl; exact rfl) | ((with_reducible apply wpList_store_kat (c := d) (hq := HZ.out)); exact rfl; exact rfl; exact rfl; exact rfl))
   exact bodyPost_ret (results_pair Tryz.results90 rfl rfl (HT2.out.out d).1) rfl (HT2.out.fin HR.out)
  ·have d_h1 : decide (x.st = 3) = false := (by simpa using h1); have n_h1 : (x.st != 3) = true := (by simpa using h1); have q_h1 : (x.st == 3) = false := (by simpa using h1)
   by_cases h2 : x.st = 2
   ·have d_h2 : decide (x.st = 2) = true := (by simpa using h2); have n_h2 : (x.st != 2) = false := (by simpa using h2); have q_h2 : (x.st == 2) = true := (by simpa using h2)
    have HR := Lib.hid (show serveK x = ({ x with st := 4 }, 0) from if_pos (.inr ⟨h2, h3⟩))
    go_enter Tryz.func90, Tryz.ntmps90
    go_upto_region 1 with fail
    obtain ⟨W, hW⟩ : ∃ W, (w.alloc (.cells x.cells 46)).alloc (.cells Z8 46) = W := ⟨_, rfl⟩
    rw [hW] at HT ⊢; clear hW
    generalize w.heap.size + 1 = q at HT ⊢
    generalize w.heap.size = p at HT ⊢
    have k1 := HT.out.at_.get1; have k5 := HT.out.at_.get5; have f5 := At.frozen HT.out.at_ 5
    have HT2 := Lib.hid (HT.out.set5 4); clear HT
    generalize hd : ({ x with st := 4 } : K) = d at HT2 HR
    have HA := Lib.hid HT2.out.at_
    obtain ⟨z, hz⟩ := HT2.out.ans
    have HZ := Lib.hid hz; clear hz hd
    go_upto_region 9 with fail
    go_wp2_with (first | ((with_reducible apply wpList_load_kat (h := HA.out)); exact rfl; exact rfl; exact rfl) | ((with_reducible apply wpList_store_kat (c := d) (hq := HZ.out)); exact rfl; exact rfl; exact rfl; exact rfl))
    exact bodyPost_ret (results_pair Tryz.results90 rfl rfl (HT2.out.out d).1) rfl (HT2.out.fin HR.out)
   ·have d_h2 : decide (x.st = 2) = false := (by simpa using h2); have n_h2 : (x.st != 2) = true := (by simpa using h2); have q_h2 : (x.st == 2) = false := (by simpa using h2)
    have HR : Hid (_ = (zk, (7 : Int))) := Lib.hid (show serveK x = _ from if_neg (fun h => h.elim h1 (fun h => h2 h.1)))
    go_enter Tryz.func90, Tryz.ntmps90
    go_upto_region 1 with fail
    obtain ⟨W, hW⟩ : ∃ W, (w.alloc (.cells x.cells 46)).alloc (.cells Z8 46) = W := ⟨_, rfl⟩
    rw [hW] at HT ⊢; clear hW
    generalize w.heap.size + 1 = q at HT ⊢
    generalize w.heap.size = p at HT ⊢
    have k1 := HT.out.at_.get1; have k5 := HT.out.at_.get5; have f5 := At.frozen HT.out.at_ 5
    obtain ⟨z, hz⟩ := HT.out.ans
    have HZ := Lib.hid hz; clear hz
    go_upto_region 18 with fail
    go_wp2_with ((with_reducible apply wpList_store_kat (c := zk) (hq := HZ.out)); exact rfl; exact rfl; exact rfl; exact rfl)
    exact bodyPost_ret (results_pair Tryz.results90 rfl rfl (HT.out.out zk).1) rfl (HT.out.fin HR.out)
set_option maxRecDepth 100000 in
set_option maxHeartbeats 4000000 in
theorem rends3_any (x : K) (w : World) : Calls Tryz.prog 90 #[x.V, .int .i64 3] w (Ans w (cancelK x)) := by
 have HT := Lib.hid (Two.new w x)
 obtain ⟨t, dt, nt, qt⟩ : ∃ t, decide (x.kind = 4) = t ∧ (x.kind != 4) = !t ∧ (x.kind == 4) = t := ⟨_, rfl, rfl, rfl⟩
 by_cases h1 : x.st = 1
 ·have d_h1 : decide (x.st = 1) = true := (by simpa using h1); have n_h1 : (x.st != 1) = false := (by simpa using h1); have q_h1 : (x.st == 1) = true := (by simpa using h1)
  have HR := Lib.hid (show cancelK x = ({ x with st := 5 }, 0) from if_pos (.inl h1))
  go_enter Tryz.func90, Tryz.ntmps90
  go_upto_region 1 with fail
  obtain ⟨W, hW⟩ : ∃ W, (w.alloc (.cells x.cells 46)).alloc (.cells Z8 46) = W := ⟨_, rfl⟩
  rw [hW] at HT ⊢; clear hW
  generalize w.heap.size + 1 = q at HT ⊢
  generalize w.heap.size = p at HT ⊢
  have k1 := HT.out.at_.get1; have k5 := HT.out.at_.get5; have f5 := At.frozen HT.out.at_ 5
  have HT2 := Lib.hid (HT.out.set5 5); clear HT
  generalize hd : ({ x with st := 5 } : K) = d at HT2 HR
  have HA := Lib.hid HT2.out.at_
  obtain ⟨z, hz⟩ := HT2.out.ans
  have HZ := Lib.hid hz; clear hz hd
  go_upto_region 13 with fail
  go_wp2_with (first | ((with_reducible apply wpList_load_kat (h := HA.out)); exact rfl; exact rfl; exact rfl) | ((with_reducible apply wpList_store_kat (c := d) (hq := HZ.out)); exact rfl; exact rfl; exact rfl; exact rfl))
  exact bodyPost_ret (results_pair Tryz.results90 rfl rfl (HT2.out.out d).1) rfl (HT2.out.fin HR.out)
 ·have d_h1 : decide (x.st = 1) = false := (by simpa using h1); have n_h1 : (x.st != 1) = true := (by simpa using h1); have q_h1 : (x.st == 1) = false := (by simpa using h1)
  by_cases h2 : x.st = 2
  ·have d_h2 : decide (x.st = 2) = true := (by simpa using h2); have n_h2 : (x.st != 2) = false := (by simpa using h2); have q_h2 : (x.st == 2) = true := (by simpa using h2)
   have HR := Lib.hid (show cancelK x = ({ x with st := 5 }, 0) from if_pos (.inr h2))
   go_enter Tryz.func90, Tryz.ntmps90
   go_upto_region 1 with fail
   obtain ⟨W, hW⟩ : ∃ W, (w.alloc (.cells x.cells 46)).alloc (.cells Z8 46) = W := ⟨_, rfl⟩
   rw [hW] at HT ⊢; clear hW
   generalize w.heap.size + 1 = q at HT ⊢
   generalize w.heap.size = p at HT ⊢
   have k1 := HT.out.at_.get1; have k5 := HT.out.at_.get5; have f5 := At.frozen HT.out.at_ 5
   have HT2 := Lib.hid (HT.out.set5 5); clear HT
   generalize hd : ({ x with st := 5 } : K) = d at HT2 HR
   have HA := Lib.hid HT2.out.at_
   obtain ⟨z, hz⟩ := HT2.out.ans
   have HZ := Lib.hid hz; clear hz hd
   go_upto_region 13 with fail
   go_wp2_with (first | ((with_reducible apply wpList_load_kat (h := HA.out)); exact rfl; exact rfl; exact rfl) | ((with_reducible apply wpList_store_kat (c := d) (hq := HZ.out)); exact rfl; exact rfl; exact rfl; exact rfl))
   exact bodyPost_ret (results_pair Tryz.results90 rfl rfl (HT2.out.out d).1) rfl (HT2.out.fin HR.out)
  ·have d_h2 : decide (x.st = 2) = false := (by simpa using h2); have n_h2 : (x.st != 2) = true := (by simpa using h2); have q_h2 : (x.st == 2) = false := (by simpa using h2)
   have HR : Hid (_ = (zk, (7 : Int))) := Lib.hid (show cancelK x = _ from if_neg (fun h => h.elim h1 h2))
   go_enter Tryz.func90, Tryz.ntmps90
   go_upto_region 1 with fail
   obtain ⟨W, hW⟩ : ∃ W, (w.alloc (.cells x.cells 46)).alloc (.cells Z8 46) = W := ⟨_, rfl⟩
   rw [hW] at HT ⊢; clear hW
   generalize w.heap.size + 1 = q at HT ⊢
   generalize w.heap.size = p at HT ⊢
   have k1 := HT.out.at_.get1; have k5 := HT.out.at_.get5; have f5 := At.frozen HT.out.at_ 5
   obtain ⟨z, hz⟩ := HT.out.ans
   have HZ := Lib.hid hz; clear hz
   go_upto_region 18 with fail
   go_wp2_with ((with_reducible apply wpList_store_kat (c := zk) (hq := HZ.out)); exact rfl; exact rfl; exact rfl; exact rfl)
   exact bodyPost_ret (results_pair Tryz.results90 rfl rfl (HT.out.out zk).1) rfl (HT.out.fin HR.out)
set_option maxRecDepth 100000 in
set_option maxHeartbeats 4000000 in
theorem rends4_any (x : K) (w : World) : Calls Tryz.prog 90 #[x.V, .int .i64 4] w (Ans w (expireK x)) := by
 have HT := Lib.hid (Two.new w x)
 obtain ⟨t, dt, nt, qt⟩ : ∃ t, decide (x.kind = 4) = t ∧ (x.kind != 4) = !t ∧ (x.kind == 4) = t := ⟨_, rfl, rfl, rfl⟩
 by_cases h1 : x.st = 1
 ·have d_h1 : decide (x.st = 1) = true := (by simpa using h1); have n_h1 : (x.st != 1) = false := (by simpa using h1); have q_h1 : (x.st == 1) = true := (by simpa using h1)
  have HR := Lib.hid (show expireK x = (kfree { x with st := 6 }, 0) from if_pos h1)
  go_enter Tryz.func90, Tryz.ntmps90
  go_upto_region 1 with fail
  obtain ⟨W, hW⟩ : ∃ W, (w.alloc (.cells x.cells 46)).alloc (.cells Z8 46) = W := ⟨_, rfl⟩
  rw [hW] at HT ⊢; clear hW
  generalize w.heap.size + 1 = q at HT ⊢
  generalize w.heap.size = p at HT ⊢
  have k1 := HT.out.at_.get1; have k5 := HT.out.at_.get5; have f5 := At.frozen HT.out.at_ 5
  have HA := Lib.hid HT.out.at_
  have CF := Lib.hid (fun W => rfree_any x 6 W)
  generalize kfree { x with st := 6 } = d2 at CF HR
  go_upto_region 17 with fail
  go_wp2_with ((with_reducible apply wpList_load_kat (h := HA.out)); exact rfl; exact rfl; exact rfl)
  refine (CF.out _).mono ?_
  rintro e w1 ⟨rfl, hb⟩
  have HT3 := Lib.hid (HT.out.step hb); clear hb HT
  obtain ⟨z, hz⟩ := HT3.out.ans
  have HZ := Lib.hid hz; clear hz
  go_wp2_with ((with_reducible apply wpList_store_kat (c := d2) (hq := HZ.out)); exact rfl; exact rfl; exact rfl; exact rfl)
  exact bodyPost_ret (results_pair Tryz.results90 rfl rfl (HT3.out.out d2).1) rfl (HT3.out.fin HR.out)
 ·have d_h1 : decide (x.st = 1) = false := (by simpa using h1); have n_h1 : (x.st != 1) = true := (by simpa using h1); have q_h1 : (x.st == 1) = false := (by simpa using h1)
  have HR : Hid (_ = (zk, (7 : Int))) := Lib.hid (show expireK x = _ from if_neg h1)
  go_enter Tryz.func90, Tryz.ntmps90
  go_upto_region 1 with fail
  obtain ⟨W, hW⟩ : ∃ W, (w.alloc (.cells x.cells 46)).alloc (.cells Z8 46) = W := ⟨_, rfl⟩
  rw [hW] at HT ⊢; clear hW
  generalize w.heap.size + 1 = q at HT ⊢
  generalize w.heap.size = p at HT ⊢
  have k1 := HT.out.at_.get1; have k5 := HT.out.at_.get5; have f5 := At.frozen HT.out.at_ 5
  obtain ⟨z, hz⟩ := HT.out.ans
  have HZ := Lib.hid hz; clear hz
  go_upto_region 18 with fail
  go_wp2_with ((with_reducible apply wpList_store_kat (c := zk) (hq := HZ.out)); exact rfl; exact rfl; exact rfl; exact rfl)
  exact bodyPost_ret (results_pair Tryz.results90 rfl rfl (HT.out.out zk).1) rfl (HT.out.fin HR.out)
def endsK (x : K) (k : Int) : K × Int := if k = 1 then boardK x else if k = 2 then serveK x else if k = 3 then cancelK x else expireK x
theorem rends_any (x : K) {k : Int} (h1 : 1 ≤ k) (h2 : k ≤ 4) (w : World) : Calls Tryz.prog 90 #[x.V, .int .i64 k] w (Ans w (endsK x k)) := by
 obtain rfl | rfl | rfl | rfl : k = 1 ∨ k = 2 ∨ k = 3 ∨ k = 4 := by omega
 ·exact rends1_any x w
 ·exact rends2_any x w
 ·exact rends3_any x w
 ·exact rends4_any x w
end Go.Proofs.YtplapoenhohliaaGreat
