import Derived.Test.YtplapoenhohliaaGreatRfB
import Derived.Test.YtplapoenhohliaaGreatMay
namespace Go.Proofs.YtplapoenhohliaaGreat
open Go.RowKit Go.Lib
set_option linter.unusedVariables false
set_option linter.unusedSimpArgs false
def rask (c : Cfg) (x : K) : Bool := if x.kind = 1 then decide (0 < x.frm) && (decide (x.frm < c.get 0) && (decide (x.dto = 0) && decide (x.car = 0))) else if x.kind = 2 then decide (1 < x.frm) && (decide (x.frm ≤ c.get 0) && (decide (x.dto = 0) && decide (x.car = 0))) else if x.kind = 3 then decide (x.frm = 0) && (flB c x.dto && (decide (0 < x.car) && decide (x.car ≤ c.get 1))) else if x.kind = 4 then flB c x.frm && (flB c x.dto && (!decide (x.frm = x.dto) && decide (x.car = 0))) else false
def rchk (c : Cfg) (x : K) : Int := if okc c = true then (if x.id = 0 then (if x.st = 0 then (if x.own = 0 then (if x.born = 0 then (if rask c x = true then 0 else 1) else 1) else 1) else 1) else 1) else 3
theorem rchk_eq (c : Cfg) (x : K) : rchk c x = chkK c x := by
 unfold rchk chkK
 cases h0 : okc c
 ·simp
 ·simp only [if_true]
  have key : (x.id = 0 ∧ x.st = 0 ∧ x.own = 0 ∧ x.born = 0 ∧ rask c x = true) ↔ askK c x = true := by
   obtain ⟨a1, a2, a3, a4, a5, a6, a7, a8⟩ := x
   unfold rask askK
   by_cases h1 : a2 = 1
   ·simp [h1, ask1, K.hall, K.beq, isB, h0]; omega
   ·by_cases h2 : a2 = 2
    ·simp [h2, ask2, K.hall, K.beq, isB, h0]; omega
    ·by_cases h3 : a2 = 3
     ·simp [h3, ask3, K.ins, K.beq, isB, flB, h0]; omega
     ·by_cases h4 : a2 = 4
      ·simp [h4, ask4, K.trip, K.beq, isB, flB, h0]; omega
      ·simp [h1, h2, h3, h4]
  cases h : askK c x
  ·have hk : ¬ (x.id = 0 ∧ x.st = 0 ∧ x.own = 0 ∧ x.born = 0 ∧ rask c x = true) := fun e => by rw [key.1 e] at h; exact Bool.noConfusion h
   by_cases e1 : x.id = 0
   ·rw [if_pos e1]
    by_cases e2 : x.st = 0
    ·rw [if_pos e2]
     by_cases e3 : x.own = 0
     ·rw [if_pos e3]
      by_cases e4 : x.born = 0
      ·rw [if_pos e4]
       have : ¬ rask c x = true := fun e => hk ⟨e1, e2, e3, e4, e⟩
       rw [if_neg this]; rfl
      ·rw [if_neg e4]; rfl
     ·rw [if_neg e3]; rfl
    ·rw [if_neg e2]; rfl
   ·rw [if_neg e1]; rfl
  ·obtain ⟨e1, e2, e3, e4, e5⟩ := key.2 h
   rw [if_pos e1, if_pos e2, if_pos e3, if_pos e4, if_pos e5]; rfl
set_option maxRecDepth 100000 in
set_option maxHeartbeats 4000000 in
theorem rchk_no (c : Cfg) (x : K) (w : World) (h : okc c = false) : Calls Tryz.prog 59 #[c.V, x.V] w (Num w (rchk c x)) := by
 have HT := Lib.hid (Duo.new w c x)
 have CG := Lib.hid (fun W => good_any c W)
 have CF := Lib.hid (fun W => rfloor_any c x.dto W)
 have CE := Lib.hid (fun W => rfloor_any c x.frm W)
 rw [h] at CG
 have HR : Hid (rchk c x = 3) := Lib.hid (by simp [rchk, h])
 go_enter Tryz.func59, Tryz.ntmps59
 go_upto_region 1 with fail
 obtain ⟨W, hW⟩ : ∃ W, (w.alloc (.cells c.cells 24)).alloc (.cells x.cells 46) = W := ⟨_, rfl⟩
 rw [hW] at HT ⊢; clear hW
 generalize w.heap.size + 1 = p at HT ⊢
 generalize w.heap.size = g at HT ⊢
 have k0 := HT.out.at_.get0; have k1 := HT.out.at_.get1; have k2 := HT.out.at_.get2; have k3 := HT.out.at_.get3; have k4 := HT.out.at_.get4; have k5 := HT.out.at_.get5; have k6 := HT.out.at_.get6; have k7 := HT.out.at_.get7; have c0 := HT.out.cat.get (k := 0) (by omega); have c1 := HT.out.cat.get (k := 1) (by omega)
 have HC := Lib.hid HT.out.cat
 go_wp2_with ((with_reducible apply wpList_load_cat (h := HC.out)); exact rfl; exact rfl; exact rfl)
 refine (CG.out _).mono ?_
 rintro e w1 ⟨rfl, hb⟩
 have HT := Lib.hid (HT.out.step hb)
 go_wp2_with fail
 go_ret
 exact ⟨ret_int HR.out.symm, HT.out.bel⟩
set_option maxRecDepth 100000 in
set_option maxHeartbeats 4000000 in
theorem rchk_bad (c : Cfg) (x : K) (w : World) (h : okc c = true) (hn : ¬ (x.id = 0 ∧ x.st = 0 ∧ x.own = 0 ∧ x.born = 0)) : Calls Tryz.prog 59 #[c.V, x.V] w (Num w (rchk c x)) := by
 have HT := Lib.hid (Duo.new w c x)
 have CG := Lib.hid (fun W => good_any c W)
 have CF := Lib.hid (fun W => rfloor_any c x.dto W)
 have CE := Lib.hid (fun W => rfloor_any c x.frm W)
 rw [h] at CG
 by_cases e_id : x.id = 0
 ·have d_e_id : decide (x.id = 0) = true := (by simpa using e_id); have n_e_id : (x.id != 0) = false := (by simpa using e_id); have q_e_id : (x.id == 0) = true := (by simpa using e_id)
  by_cases e_st : x.st = 0
  ·have d_e_st : decide (x.st = 0) = true := (by simpa using e_st); have n_e_st : (x.st != 0) = false := (by simpa using e_st); have q_e_st : (x.st == 0) = true := (by simpa using e_st)
   by_cases e_own : x.own = 0
   ·have d_e_own : decide (x.own = 0) = true := (by simpa using e_own); have n_e_own : (x.own != 0) = false := (by simpa using e_own); have q_e_own : (x.own == 0) = true := (by simpa using e_own)
    by_cases e_born : x.born = 0
    ·have d_e_born : decide (x.born = 0) = true := (by simpa using e_born); have n_e_born : (x.born != 0) = false := (by simpa using e_born); have q_e_born : (x.born == 0) = true := (by simpa using e_born)
     exact absurd ⟨e_id, e_st, e_own, e_born⟩ hn
    ·have d_e_born : decide (x.born = 0) = false := (by simpa using e_born); have n_e_born : (x.born != 0) = true := (by simpa using e_born); have q_e_born : (x.born == 0) = false := (by simpa using e_born)
     have HR : Hid (rchk c x = 1) := Lib.hid (by simp [rchk, h, e_id, e_st, e_own, e_born])
     go_enter Tryz.func59, Tryz.ntmps59
     go_upto_region 1 with fail
     obtain ⟨W, hW⟩ : ∃ W, (w.alloc (.cells c.cells 24)).alloc (.cells x.cells 46) = W := ⟨_, rfl⟩
     rw [hW] at HT ⊢; clear hW
     generalize w.heap.size + 1 = p at HT ⊢
     generalize w.heap.size = g at HT ⊢
     have k0 := HT.out.at_.get0; have k1 := HT.out.at_.get1; have k2 := HT.out.at_.get2; have k3 := HT.out.at_.get3; have k4 := HT.out.at_.get4; have k5 := HT.out.at_.get5; have k6 := HT.out.at_.get6; have k7 := HT.out.at_.get7; have c0 := HT.out.cat.get (k := 0) (by omega); have c1 := HT.out.cat.get (k := 1) (by omega)
     have HC := Lib.hid HT.out.cat
     go_wp2_with ((with_reducible apply wpList_load_cat (h := HC.out)); exact rfl; exact rfl; exact rfl)
     refine (CG.out _).mono ?_
     rintro e w1 ⟨rfl, hb⟩
     have HT := Lib.hid (HT.out.step hb); clear hb k0 k1 k2 k3 k4 k5 k6 k7 c0 c1 HC
     have k0 := HT.out.at_.get0; have k1 := HT.out.at_.get1; have k2 := HT.out.at_.get2; have k3 := HT.out.at_.get3; have k4 := HT.out.at_.get4; have k5 := HT.out.at_.get5; have k6 := HT.out.at_.get6; have k7 := HT.out.at_.get7; have c0 := HT.out.cat.get (k := 0) (by omega); have c1 := HT.out.cat.get (k := 1) (by omega)
     have HC := Lib.hid HT.out.cat
     go_wp2_with fail
     go_ret
     exact ⟨ret_int HR.out.symm, HT.out.bel⟩
   ·have d_e_own : decide (x.own = 0) = false := (by simpa using e_own); have n_e_own : (x.own != 0) = true := (by simpa using e_own); have q_e_own : (x.own == 0) = false := (by simpa using e_own)
    have HR : Hid (rchk c x = 1) := Lib.hid (by simp [rchk, h, e_id, e_st, e_own])
    go_enter Tryz.func59, Tryz.ntmps59
    go_upto_region 1 with fail
    obtain ⟨W, hW⟩ : ∃ W, (w.alloc (.cells c.cells 24)).alloc (.cells x.cells 46) = W := ⟨_, rfl⟩
    rw [hW] at HT ⊢; clear hW
    generalize w.heap.size + 1 = p at HT ⊢
    generalize w.heap.size = g at HT ⊢
    have k0 := HT.out.at_.get0; have k1 := HT.out.at_.get1; have k2 := HT.out.at_.get2; have k3 := HT.out.at_.get3; have k4 := HT.out.at_.get4; have k5 := HT.out.at_.get5; have k6 := HT.out.at_.get6; have k7 := HT.out.at_.get7; have c0 := HT.out.cat.get (k := 0) (by omega); have c1 := HT.out.cat.get (k := 1) (by omega)
    have HC := Lib.hid HT.out.cat
    go_wp2_with ((with_reducible apply wpList_load_cat (h := HC.out)); exact rfl; exact rfl; exact rfl)
    refine (CG.out _).mono ?_
    rintro e w1 ⟨rfl, hb⟩
    have HT := Lib.hid (HT.out.step hb); clear hb k0 k1 k2 k3 k4 k5 k6 k7 c0 c1 HC
    have k0 := HT.out.at_.get0; have k1 := HT.out.at_.get1; have k2 := HT.out.at_.get2; have k3 := HT.out.at_.get3; have k4 := HT.out.at_.get4; have k5 := HT.out.at_.get5; have k6 := HT.out.at_.get6; have k7 := HT.out.at_.get7; have c0 := HT.out.cat.get (k := 0) (by omega); have c1 := HT.out.cat.get (k := 1) (by omega)
    have HC := Lib.hid HT.out.cat
    go_wp2_with fail
    go_ret
    exact ⟨ret_int HR.out.symm, HT.out.bel⟩
  ·have d_e_st : decide (x.st = 0) = false := (by simpa using e_st); have n_e_st : (x.st != 0) = true := (by simpa using e_st); have q_e_st : (x.st == 0) = false := (by simpa using e_st)
   have HR : Hid (rchk c x = 1) := Lib.hid (by simp [rchk, h, e_id, e_st])
   go_enter Tryz.func59, Tryz.ntmps59
   go_upto_region 1 with fail
   obtain ⟨W, hW⟩ : ∃ W, (w.alloc (.cells c.cells 24)).alloc (.cells x.cells 46) = W := ⟨_, rfl⟩
   rw [hW] at HT ⊢; clear hW
   generalize w.heap.size + 1 = p at HT ⊢
   generalize w.heap.size = g at HT ⊢
   have k0 := HT.out.at_.get0; have k1 := HT.out.at_.get1; have k2 := HT.out.at_.get2; have k3 := HT.out.at_.get3; have k4 := HT.out.at_.get4; have k5 := HT.out.at_.get5; have k6 := HT.out.at_.get6; have k7 := HT.out.at_.get7; have c0 := HT.out.cat.get (k := 0) (by omega); have c1 := HT.out.cat.get (k := 1) (by omega)
   have HC := Lib.hid HT.out.cat
   go_wp2_with ((with_reducible apply wpList_load_cat (h := HC.out)); exact rfl; exact rfl; exact rfl)
   refine (CG.out _).mono ?_
   rintro e w1 ⟨rfl, hb⟩
   have HT := Lib.hid (HT.out.step hb); clear hb k0 k1 k2 k3 k4 k5 k6 k7 c0 c1 HC
   have k0 := HT.out.at_.get0; have k1 := HT.out.at_.get1; have k2 := HT.out.at_.get2; have k3 := HT.out.at_.get3; have k4 := HT.out.at_.get4; have k5 := HT.out.at_.get5; have k6 := HT.out.at_.get6; have k7 := HT.out.at_.get7; have c0 := HT.out.cat.get (k := 0) (by omega); have c1 := HT.out.cat.get (k := 1) (by omega)
   have HC := Lib.hid HT.out.cat
   go_wp2_with fail
   go_ret
   exact ⟨ret_int HR.out.symm, HT.out.bel⟩
 ·have d_e_id : decide (x.id = 0) = false := (by simpa using e_id); have n_e_id : (x.id != 0) = true := (by simpa using e_id); have q_e_id : (x.id == 0) = false := (by simpa using e_id)
  have HR : Hid (rchk c x = 1) := Lib.hid (by simp [rchk, h, e_id])
  go_enter Tryz.func59, Tryz.ntmps59
  go_upto_region 1 with fail
  obtain ⟨W, hW⟩ : ∃ W, (w.alloc (.cells c.cells 24)).alloc (.cells x.cells 46) = W := ⟨_, rfl⟩
  rw [hW] at HT ⊢; clear hW
  generalize w.heap.size + 1 = p at HT ⊢
  generalize w.heap.size = g at HT ⊢
  have k0 := HT.out.at_.get0; have k1 := HT.out.at_.get1; have k2 := HT.out.at_.get2; have k3 := HT.out.at_.get3; have k4 := HT.out.at_.get4; have k5 := HT.out.at_.get5; have k6 := HT.out.at_.get6; have k7 := HT.out.at_.get7; have c0 := HT.out.cat.get (k := 0) (by omega); have c1 := HT.out.cat.get (k := 1) (by omega)
  have HC := Lib.hid HT.out.cat
  go_wp2_with ((with_reducible apply wpList_load_cat (h := HC.out)); exact rfl; exact rfl; exact rfl)
  refine (CG.out _).mono ?_
  rintro e w1 ⟨rfl, hb⟩
  have HT := Lib.hid (HT.out.step hb); clear hb k0 k1 k2 k3 k4 k5 k6 k7 c0 c1 HC
  have k0 := HT.out.at_.get0; have k1 := HT.out.at_.get1; have k2 := HT.out.at_.get2; have k3 := HT.out.at_.get3; have k4 := HT.out.at_.get4; have k5 := HT.out.at_.get5; have k6 := HT.out.at_.get6; have k7 := HT.out.at_.get7; have c0 := HT.out.cat.get (k := 0) (by omega); have c1 := HT.out.cat.get (k := 1) (by omega)
  have HC := Lib.hid HT.out.cat
  go_wp2_with fail
  go_ret
  exact ⟨ret_int HR.out.symm, HT.out.bel⟩
set_option maxRecDepth 100000 in
set_option maxHeartbeats 4000000 in
theorem rchk_1 (c : Cfg) (x : K) (w : World) (h : okc c = true) (e_id : x.id = 0) (e_st : x.st = 0) (e_own : x.own = 0) (e_born : x.born = 0) (hk : x.kind = 1) : Calls Tryz.prog 59 #[c.V, x.V] w (Num w (rchk c x)) := by
 have HT := Lib.hid (Duo.new w c x)
 have CG := Lib.hid (fun W => good_any c W)
 have CF := Lib.hid (fun W => rfloor_any c x.dto W)
 have CE := Lib.hid (fun W => rfloor_any c x.frm W)
 rw [h] at CG
 have d_e_id : decide (x.id = 0) = true := (by simpa using e_id); have n_e_id : (x.id != 0) = false := (by simpa using e_id); have q_e_id : (x.id == 0) = true := (by simpa using e_id)
 have d_e_st : decide (x.st = 0) = true := (by simpa using e_st); have n_e_st : (x.st != 0) = false := (by simpa using e_st); have q_e_st : (x.st == 0) = true := (by simpa using e_st)
 have d_e_own : decide (x.own = 0) = true := (by simpa using e_own); have n_e_own : (x.own != 0) = false := (by simpa using e_own); have q_e_own : (x.own == 0) = true := (by simpa using e_own)
 have d_e_born : decide (x.born = 0) = true := (by simpa using e_born); have n_e_born : (x.born != 0) = false := (by simpa using e_born); have q_e_born : (x.born == 0) = true := (by simpa using e_born)
 have d_hk : decide (x.kind = 1) = true := (by simpa using hk); have n_hk : (x.kind != 1) = false := (by simpa using hk); have q_hk : (x.kind == 1) = true := (by simpa using hk)
 have h2 : ¬ x.kind = 2 := by omega
 have d_h2 : decide (x.kind = 2) = false := (by simpa using h2); have n_h2 : (x.kind != 2) = true := (by simpa using h2); have q_h2 : (x.kind == 2) = false := (by simpa using h2)
 have h3 : ¬ x.kind = 3 := by omega
 have d_h3 : decide (x.kind = 3) = false := (by simpa using h3); have n_h3 : (x.kind != 3) = true := (by simpa using h3); have q_h3 : (x.kind == 3) = false := (by simpa using h3)
 have h4 : ¬ x.kind = 4 := by omega
 have d_h4 : decide (x.kind = 4) = false := (by simpa using h4); have n_h4 : (x.kind != 4) = true := (by simpa using h4); have q_h4 : (x.kind == 4) = false := (by simpa using h4)
 by_cases a1 : 0 < x.frm
 ·have d_a1 : decide (0 < x.frm) = true := (by simpa using a1)
  by_cases a2 : x.frm < c.get 0
  ·have d_a2 : decide (x.frm < c.get 0) = true := (by simpa using a2)
   by_cases a3 : x.dto = 0
   ·have d_a3 : decide (x.dto = 0) = true := (by simpa using a3); have n_a3 : (x.dto != 0) = false := (by simpa using a3); have q_a3 : (x.dto == 0) = true := (by simpa using a3)
    by_cases a4 : x.car = 0
    ·have d_a4 : decide (x.car = 0) = true := (by simpa using a4); have n_a4 : (x.car != 0) = false := (by simpa using a4); have q_a4 : (x.car == 0) = true := (by simpa using a4)
     have HR : Hid (rchk c x = 0) := Lib.hid (by simp [rchk, rask, h, e_id, e_st, e_own, e_born, hk, a1, a2, a3, a4])
     clear a1 a2 a3 a4
     go_enter Tryz.func59, Tryz.ntmps59
     go_upto_region 1 with fail
     obtain ⟨W, hW⟩ : ∃ W, (w.alloc (.cells c.cells 24)).alloc (.cells x.cells 46) = W := ⟨_, rfl⟩
     rw [hW] at HT ⊢; clear hW
     generalize w.heap.size + 1 = p at HT ⊢
     generalize w.heap.size = g at HT ⊢
     have k0 := HT.out.at_.get0; have k1 := HT.out.at_.get1; have k2 := HT.out.at_.get2; have k3 := HT.out.at_.get3; have k4 := HT.out.at_.get4; have k5 := HT.out.at_.get5; have k6 := HT.out.at_.get6; have k7 := HT.out.at_.get7; have c0 := HT.out.cat.get (k := 0) (by omega); have c1 := HT.out.cat.get (k := 1) (by omega)
     have HC := Lib.hid HT.out.cat
     go_wp2_with ((with_reducible apply wpList_load_cat (h := HC.out)); exact rfl; exact rfl; exact rfl)
     refine (CG.out _).mono ?_
     rintro e w1 ⟨rfl, hb⟩
     have HT := Lib.hid (HT.out.step hb); clear hb k0 k1 k2 k3 k4 k5 k6 k7 c0 c1 HC
     have k0 := HT.out.at_.get0; have k1 := HT.out.at_.get1; have k2 := HT.out.at_.get2; have k3 := HT.out.at_.get3; have k4 := HT.out.at_.get4; have k5 := HT.out.at_.get5; have k6 := HT.out.at_.get6; have k7 := HT.out.at_.get7; have c0 := HT.out.cat.get (k := 0) (by omega); have c1 := HT.out.cat.get (k := 1) (by omega)
     have HC := Lib.hid HT.out.cat
     go_wp2_with fail
     go_ret
     exact ⟨ret_int HR.out.symm, HT.out.bel⟩
    ·have d_a4 : decide (x.car = 0) = false := (by simpa using a4); have n_a4 : (x.car != 0) = true := (by simpa using a4); have q_a4 : (x.car == 0) = false := (by simpa using a4)
     have HR : Hid (rchk c x = 1) := Lib.hid (by simp [rchk, rask, h, e_id, e_st, e_own, e_born, hk, a1, a2, a3, a4])
     clear a1 a2 a3 a4
     go_enter Tryz.func59, Tryz.ntmps59
     go_upto_region 1 with fail
     obtain ⟨W, hW⟩ : ∃ W, (w.alloc (.cells c.cells 24)).alloc (.cells x.cells 46) = W := ⟨_, rfl⟩
     rw [hW] at HT ⊢; clear hW
     generalize w.heap.size + 1 = p at HT ⊢
     generalize w.heap.size = g at HT ⊢
     have k0 := HT.out.at_.get0; have k1 := HT.out.at_.get1; have k2 := HT.out.at_.get2; have k3 := HT.out.at_.get3; have k4 := HT.out.at_.get4; have k5 := HT.out.at_.get5; have k6 := HT.out.at_.get6; have k7 := HT.out.at_.get7; have c0 := HT.out.cat.get (k := 0) (by omega); have c1 := HT.out.cat.get (k := 1) (by omega)
     have HC := Lib.hid HT.out.cat
     go_wp2_with ((with_reducible apply wpList_load_cat (h := HC.out)); exact rfl; exact rfl; exact rfl)
     refine (CG.out _).mono ?_
     rintro e w1 ⟨rfl, hb⟩
     have HT := Lib.hid (HT.out.step hb); clear hb k0 k1 k2 k3 k4 k5 k6 k7 c0 c1 HC
     have k0 := HT.out.at_.get0; have k1 := HT.out.at_.get1; have k2 := HT.out.at_.get2; have k3 := HT.out.at_.get3; have k4 := HT.out.at_.get4; have k5 := HT.out.at_.get5; have k6 := HT.out.at_.get6; have k7 := HT.out.at_.get7; have c0 := HT.out.cat.get (k := 0) (by omega); have c1 := HT.out.cat.get (k := 1) (by omega)
     have HC := Lib.hid HT.out.cat
     go_wp2_with fail
     go_ret
     exact ⟨ret_int HR.out.symm, HT.out.bel⟩
   ·have d_a3 : decide (x.dto = 0) = false := (by simpa using a3); have n_a3 : (x.dto != 0) = true := (by simpa using a3); have q_a3 : (x.dto == 0) = false := (by simpa using a3)
    have HR : Hid (rchk c x = 1) := Lib.hid (by simp [rchk, rask, h, e_id, e_st, e_own, e_born, hk, a1, a2, a3])
    clear a1 a2 a3
    go_enter Tryz.func59, Tryz.ntmps59
    go_upto_region 1 with fail
    obtain ⟨W, hW⟩ : ∃ W, (w.alloc (.cells c.cells 24)).alloc (.cells x.cells 46) = W := ⟨_, rfl⟩
    rw [hW] at HT ⊢; clear hW
    generalize w.heap.size + 1 = p at HT ⊢
    generalize w.heap.size = g at HT ⊢
    have k0 := HT.out.at_.get0; have k1 := HT.out.at_.get1; have k2 := HT.out.at_.get2; have k3 := HT.out.at_.get3; have k4 := HT.out.at_.get4; have k5 := HT.out.at_.get5; have k6 := HT.out.at_.get6; have k7 := HT.out.at_.get7; have c0 := HT.out.cat.get (k := 0) (by omega); have c1 := HT.out.cat.get (k := 1) (by omega)
    have HC := Lib.hid HT.out.cat
    go_wp2_with ((with_reducible apply wpList_load_cat (h := HC.out)); exact rfl; exact rfl; exact rfl)
    refine (CG.out _).mono ?_
    rintro e w1 ⟨rfl, hb⟩
    have HT := Lib.hid (HT.out.step hb); clear hb k0 k1 k2 k3 k4 k5 k6 k7 c0 c1 HC
    have k0 := HT.out.at_.get0; have k1 := HT.out.at_.get1; have k2 := HT.out.at_.get2; have k3 := HT.out.at_.get3; have k4 := HT.out.at_.get4; have k5 := HT.out.at_.get5; have k6 := HT.out.at_.get6; have k7 := HT.out.at_.get7; have c0 := HT.out.cat.get (k := 0) (by omega); have c1 := HT.out.cat.get (k := 1) (by omega)
    have HC := Lib.hid HT.out.cat
    go_wp2_with fail
    go_ret
    exact ⟨ret_int HR.out.symm, HT.out.bel⟩
  ·have d_a2 : decide (x.frm < c.get 0) = false := (by simpa using a2)
   have HR : Hid (rchk c x = 1) := Lib.hid (by simp [rchk, rask, h, e_id, e_st, e_own, e_born, hk, a1, a2])
   clear a1 a2
   go_enter Tryz.func59, Tryz.ntmps59
   go_upto_region 1 with fail
   obtain ⟨W, hW⟩ : ∃ W, (w.alloc (.cells c.cells 24)).alloc (.cells x.cells 46) = W := ⟨_, rfl⟩
   rw [hW] at HT ⊢; clear hW
   generalize w.heap.size + 1 = p at HT ⊢
   generalize w.heap.size = g at HT ⊢
   have k0 := HT.out.at_.get0; have k1 := HT.out.at_.get1; have k2 := HT.out.at_.get2; have k3 := HT.out.at_.get3; have k4 := HT.out.at_.get4; have k5 := HT.out.at_.get5; have k6 := HT.out.at_.get6; have k7 := HT.out.at_.get7; have c0 := HT.out.cat.get (k := 0) (by omega); have c1 := HT.out.cat.get (k := 1) (by omega)
   have HC := Lib.hid HT.out.cat
   go_wp2_with ((with_reducible apply wpList_load_cat (h := HC.out)); exact rfl; exact rfl; exact rfl)
   refine (CG.out _).mono ?_
   rintro e w1 ⟨rfl, hb⟩
   have HT := Lib.hid (HT.out.step hb); clear hb k0 k1 k2 k3 k4 k5 k6 k7 c0 c1 HC
   have k0 := HT.out.at_.get0; have k1 := HT.out.at_.get1; have k2 := HT.out.at_.get2; have k3 := HT.out.at_.get3; have k4 := HT.out.at_.get4; have k5 := HT.out.at_.get5; have k6 := HT.out.at_.get6; have k7 := HT.out.at_.get7; have c0 := HT.out.cat.get (k := 0) (by omega); have c1 := HT.out.cat.get (k := 1) (by omega)
   have HC := Lib.hid HT.out.cat
   go_wp2_with fail
   go_ret
   exact ⟨ret_int HR.out.symm, HT.out.bel⟩
 ·have d_a1 : decide (0 < x.frm) = false := (by simpa using a1)
  have HR : Hid (rchk c x = 1) := Lib.hid (by simp [rchk, rask, h, e_id, e_st, e_own, e_born, hk, a1])
  clear a1
  go_enter Tryz.func59, Tryz.ntmps59
  go_upto_region 1 with fail
  obtain ⟨W, hW⟩ : ∃ W, (w.alloc (.cells c.cells 24)).alloc (.cells x.cells 46) = W := ⟨_, rfl⟩
  rw [hW] at HT ⊢; clear hW
  generalize w.heap.size + 1 = p at HT ⊢
  generalize w.heap.size = g at HT ⊢
  have k0 := HT.out.at_.get0; have k1 := HT.out.at_.get1; have k2 := HT.out.at_.get2; have k3 := HT.out.at_.get3; have k4 := HT.out.at_.get4; have k5 := HT.out.at_.get5; have k6 := HT.out.at_.get6; have k7 := HT.out.at_.get7; have c0 := HT.out.cat.get (k := 0) (by omega); have c1 := HT.out.cat.get (k := 1) (by omega)
  have HC := Lib.hid HT.out.cat
  go_wp2_with ((with_reducible apply wpList_load_cat (h := HC.out)); exact rfl; exact rfl; exact rfl)
  refine (CG.out _).mono ?_
  rintro e w1 ⟨rfl, hb⟩
  have HT := Lib.hid (HT.out.step hb); clear hb k0 k1 k2 k3 k4 k5 k6 k7 c0 c1 HC
  have k0 := HT.out.at_.get0; have k1 := HT.out.at_.get1; have k2 := HT.out.at_.get2; have k3 := HT.out.at_.get3; have k4 := HT.out.at_.get4; have k5 := HT.out.at_.get5; have k6 := HT.out.at_.get6; have k7 := HT.out.at_.get7; have c0 := HT.out.cat.get (k := 0) (by omega); have c1 := HT.out.cat.get (k := 1) (by omega)
  have HC := Lib.hid HT.out.cat
  go_wp2_with fail
  go_ret
  exact ⟨ret_int HR.out.symm, HT.out.bel⟩
set_option maxRecDepth 100000 in
set_option maxHeartbeats 4000000 in
theorem rchk_2 (c : Cfg) (x : K) (w : World) (h : okc c = true) (e_id : x.id = 0) (e_st : x.st = 0) (e_own : x.own = 0) (e_born : x.born = 0) (hk : x.kind = 2) : Calls Tryz.prog 59 #[c.V, x.V] w (Num w (rchk c x)) := by
 have HT := Lib.hid (Duo.new w c x)
 have CG := Lib.hid (fun W => good_any c W)
 have CF := Lib.hid (fun W => rfloor_any c x.dto W)
 have CE := Lib.hid (fun W => rfloor_any c x.frm W)
 rw [h] at CG
 have d_e_id : decide (x.id = 0) = true := (by simpa using e_id); have n_e_id : (x.id != 0) = false := (by simpa using e_id); have q_e_id : (x.id == 0) = true := (by simpa using e_id)
 have d_e_st : decide (x.st = 0) = true := (by simpa using e_st); have n_e_st : (x.st != 0) = false := (by simpa using e_st); have q_e_st : (x.st == 0) = true := (by simpa using e_st)
 have d_e_own : decide (x.own = 0) = true := (by simpa using e_own); have n_e_own : (x.own != 0) = false := (by simpa using e_own); have q_e_own : (x.own == 0) = true := (by simpa using e_own)
 have d_e_born : decide (x.born = 0) = true := (by simpa using e_born); have n_e_born : (x.born != 0) = false := (by simpa using e_born); have q_e_born : (x.born == 0) = true := (by simpa using e_born)
 have h1 : ¬ x.kind = 1 := by omega
 have d_h1 : decide (x.kind = 1) = false := (by simpa using h1); have n_h1 : (x.kind != 1) = true := (by simpa using h1); have q_h1 : (x.kind == 1) = false := (by simpa using h1)
 have d_hk : decide (x.kind = 2) = true := (by simpa using hk); have n_hk : (x.kind != 2) = false := (by simpa using hk); have q_hk : (x.kind == 2) = true := (by simpa using hk)
 have h3 : ¬ x.kind = 3 := by omega
 have d_h3 : decide (x.kind = 3) = false := (by simpa using h3); have n_h3 : (x.kind != 3) = true := (by simpa using h3); have q_h3 : (x.kind == 3) = false := (by simpa using h3)
 have h4 : ¬ x.kind = 4 := by omega
 have d_h4 : decide (x.kind = 4) = false := (by simpa using h4); have n_h4 : (x.kind != 4) = true := (by simpa using h4); have q_h4 : (x.kind == 4) = false := (by simpa using h4)
 by_cases a1 : 1 < x.frm
 ·have d_a1 : decide (1 < x.frm) = true := (by simpa using a1)
  by_cases a2 : x.frm ≤ c.get 0
  ·have d_a2 : decide (x.frm ≤ c.get 0) = true := (by simpa using a2)
   by_cases a3 : x.dto = 0
   ·have d_a3 : decide (x.dto = 0) = true := (by simpa using a3); have n_a3 : (x.dto != 0) = false := (by simpa using a3); have q_a3 : (x.dto == 0) = true := (by simpa using a3)
    by_cases a4 : x.car = 0
    ·have d_a4 : decide (x.car = 0) = true := (by simpa using a4); have n_a4 : (x.car != 0) = false := (by simpa using a4); have q_a4 : (x.car == 0) = true := (by simpa using a4)
     have HR : Hid (rchk c x = 0) := Lib.hid (by simp [rchk, rask, h, e_id, e_st, e_own, e_born, hk, a1, a2, a3, a4])
     clear a1 a2 a3 a4
     go_enter Tryz.func59, Tryz.ntmps59
     go_upto_region 1 with fail
     obtain ⟨W, hW⟩ : ∃ W, (w.alloc (.cells c.cells 24)).alloc (.cells x.cells 46) = W := ⟨_, rfl⟩
     rw [hW] at HT ⊢; clear hW
     generalize w.heap.size + 1 = p at HT ⊢
     generalize w.heap.size = g at HT ⊢
     have k0 := HT.out.at_.get0; have k1 := HT.out.at_.get1; have k2 := HT.out.at_.get2; have k3 := HT.out.at_.get3; have k4 := HT.out.at_.get4; have k5 := HT.out.at_.get5; have k6 := HT.out.at_.get6; have k7 := HT.out.at_.get7; have c0 := HT.out.cat.get (k := 0) (by omega); have c1 := HT.out.cat.get (k := 1) (by omega)
     have HC := Lib.hid HT.out.cat
     go_wp2_with ((with_reducible apply wpList_load_cat (h := HC.out)); exact rfl; exact rfl; exact rfl)
     refine (CG.out _).mono ?_
     rintro e w1 ⟨rfl, hb⟩
     have HT := Lib.hid (HT.out.step hb); clear hb k0 k1 k2 k3 k4 k5 k6 k7 c0 c1 HC
     have k0 := HT.out.at_.get0; have k1 := HT.out.at_.get1; have k2 := HT.out.at_.get2; have k3 := HT.out.at_.get3; have k4 := HT.out.at_.get4; have k5 := HT.out.at_.get5; have k6 := HT.out.at_.get6; have k7 := HT.out.at_.get7; have c0 := HT.out.cat.get (k := 0) (by omega); have c1 := HT.out.cat.get (k := 1) (by omega)
     have HC := Lib.hid HT.out.cat
     go_wp2_with fail
     go_ret
     exact ⟨ret_int HR.out.symm, HT.out.bel⟩
    ·have d_a4 : decide (x.car = 0) = false := (by simpa using a4); have n_a4 : (x.car != 0) = true := (by simpa using a4); have q_a4 : (x.car == 0) = false := (by simpa using a4)
     have HR : Hid (rchk c x = 1) := Lib.hid (by simp [rchk, rask, h, e_id, e_st, e_own, e_born, hk, a1, a2, a3, a4])
     clear a1 a2 a3 a4
     go_enter Tryz.func59, Tryz.ntmps59
     go_upto_region 1 with fail
     obtain ⟨W, hW⟩ : ∃ W, (w.alloc (.cells c.cells 24)).alloc (.cells x.cells 46) = W := ⟨_, rfl⟩
     rw [hW] at HT ⊢; clear hW
     generalize w.heap.size + 1 = p at HT ⊢
     generalize w.heap.size = g at HT ⊢
     have k0 := HT.out.at_.get0; have k1 := HT.out.at_.get1; have k2 := HT.out.at_.get2; have k3 := HT.out.at_.get3; have k4 := HT.out.at_.get4; have k5 := HT.out.at_.get5; have k6 := HT.out.at_.get6; have k7 := HT.out.at_.get7; have c0 := HT.out.cat.get (k := 0) (by omega); have c1 := HT.out.cat.get (k := 1) (by omega)
     have HC := Lib.hid HT.out.cat
     go_wp2_with ((with_reducible apply wpList_load_cat (h := HC.out)); exact rfl; exact rfl; exact rfl)
     refine (CG.out _).mono ?_
     rintro e w1 ⟨rfl, hb⟩
     have HT := Lib.hid (HT.out.step hb); clear hb k0 k1 k2 k3 k4 k5 k6 k7 c0 c1 HC
     have k0 := HT.out.at_.get0; have k1 := HT.out.at_.get1; have k2 := HT.out.at_.get2; have k3 := HT.out.at_.get3; have k4 := HT.out.at_.get4; have k5 := HT.out.at_.get5; have k6 := HT.out.at_.get6; have k7 := HT.out.at_.get7; have c0 := HT.out.cat.get (k := 0) (by omega); have c1 := HT.out.cat.get (k := 1) (by omega)
     have HC := Lib.hid HT.out.cat
     go_wp2_with fail
     go_ret
     exact ⟨ret_int HR.out.symm, HT.out.bel⟩
   ·have d_a3 : decide (x.dto = 0) = false := (by simpa using a3); have n_a3 : (x.dto != 0) = true := (by simpa using a3); have q_a3 : (x.dto == 0) = false := (by simpa using a3)
    have HR : Hid (rchk c x = 1) := Lib.hid (by simp [rchk, rask, h, e_id, e_st, e_own, e_born, hk, a1, a2, a3])
    clear a1 a2 a3
    go_enter Tryz.func59, Tryz.ntmps59
    go_upto_region 1 with fail
    obtain ⟨W, hW⟩ : ∃ W, (w.alloc (.cells c.cells 24)).alloc (.cells x.cells 46) = W := ⟨_, rfl⟩
    rw [hW] at HT ⊢; clear hW
    generalize w.heap.size + 1 = p at HT ⊢
    generalize w.heap.size = g at HT ⊢
    have k0 := HT.out.at_.get0; have k1 := HT.out.at_.get1; have k2 := HT.out.at_.get2; have k3 := HT.out.at_.get3; have k4 := HT.out.at_.get4; have k5 := HT.out.at_.get5; have k6 := HT.out.at_.get6; have k7 := HT.out.at_.get7; have c0 := HT.out.cat.get (k := 0) (by omega); have c1 := HT.out.cat.get (k := 1) (by omega)
    have HC := Lib.hid HT.out.cat
    go_wp2_with ((with_reducible apply wpList_load_cat (h := HC.out)); exact rfl; exact rfl; exact rfl)
    refine (CG.out _).mono ?_
    rintro e w1 ⟨rfl, hb⟩
    have HT := Lib.hid (HT.out.step hb); clear hb k0 k1 k2 k3 k4 k5 k6 k7 c0 c1 HC
    have k0 := HT.out.at_.get0; have k1 := HT.out.at_.get1; have k2 := HT.out.at_.get2; have k3 := HT.out.at_.get3; have k4 := HT.out.at_.get4; have k5 := HT.out.at_.get5; have k6 := HT.out.at_.get6; have k7 := HT.out.at_.get7; have c0 := HT.out.cat.get (k := 0) (by omega); have c1 := HT.out.cat.get (k := 1) (by omega)
    have HC := Lib.hid HT.out.cat
    go_wp2_with fail
    go_ret
    exact ⟨ret_int HR.out.symm, HT.out.bel⟩
  ·have d_a2 : decide (x.frm ≤ c.get 0) = false := (by simpa using a2)
   have HR : Hid (rchk c x = 1) := Lib.hid (by simp [rchk, rask, h, e_id, e_st, e_own, e_born, hk, a1, a2])
   clear a1 a2
   go_enter Tryz.func59, Tryz.ntmps59
   go_upto_region 1 with fail
   obtain ⟨W, hW⟩ : ∃ W, (w.alloc (.cells c.cells 24)).alloc (.cells x.cells 46) = W := ⟨_, rfl⟩
   rw [hW] at HT ⊢; clear hW
   generalize w.heap.size + 1 = p at HT ⊢
   generalize w.heap.size = g at HT ⊢
   have k0 := HT.out.at_.get0; have k1 := HT.out.at_.get1; have k2 := HT.out.at_.get2; have k3 := HT.out.at_.get3; have k4 := HT.out.at_.get4; have k5 := HT.out.at_.get5; have k6 := HT.out.at_.get6; have k7 := HT.out.at_.get7; have c0 := HT.out.cat.get (k := 0) (by omega); have c1 := HT.out.cat.get (k := 1) (by omega)
   have HC := Lib.hid HT.out.cat
   go_wp2_with ((with_reducible apply wpList_load_cat (h := HC.out)); exact rfl; exact rfl; exact rfl)
   refine (CG.out _).mono ?_
   rintro e w1 ⟨rfl, hb⟩
   have HT := Lib.hid (HT.out.step hb); clear hb k0 k1 k2 k3 k4 k5 k6 k7 c0 c1 HC
   have k0 := HT.out.at_.get0; have k1 := HT.out.at_.get1; have k2 := HT.out.at_.get2; have k3 := HT.out.at_.get3; have k4 := HT.out.at_.get4; have k5 := HT.out.at_.get5; have k6 := HT.out.at_.get6; have k7 := HT.out.at_.get7; have c0 := HT.out.cat.get (k := 0) (by omega); have c1 := HT.out.cat.get (k := 1) (by omega)
   have HC := Lib.hid HT.out.cat
   go_wp2_with fail
   go_ret
   exact ⟨ret_int HR.out.symm, HT.out.bel⟩
 ·have d_a1 : decide (1 < x.frm) = false := (by simpa using a1)
  have HR : Hid (rchk c x = 1) := Lib.hid (by simp [rchk, rask, h, e_id, e_st, e_own, e_born, hk, a1])
  clear a1
  go_enter Tryz.func59, Tryz.ntmps59
  go_upto_region 1 with fail
  obtain ⟨W, hW⟩ : ∃ W, (w.alloc (.cells c.cells 24)).alloc (.cells x.cells 46) = W := ⟨_, rfl⟩
  rw [hW] at HT ⊢; clear hW
  generalize w.heap.size + 1 = p at HT ⊢
  generalize w.heap.size = g at HT ⊢
  have k0 := HT.out.at_.get0; have k1 := HT.out.at_.get1; have k2 := HT.out.at_.get2; have k3 := HT.out.at_.get3; have k4 := HT.out.at_.get4; have k5 := HT.out.at_.get5; have k6 := HT.out.at_.get6; have k7 := HT.out.at_.get7; have c0 := HT.out.cat.get (k := 0) (by omega); have c1 := HT.out.cat.get (k := 1) (by omega)
  have HC := Lib.hid HT.out.cat
  go_wp2_with ((with_reducible apply wpList_load_cat (h := HC.out)); exact rfl; exact rfl; exact rfl)
  refine (CG.out _).mono ?_
  rintro e w1 ⟨rfl, hb⟩
  have HT := Lib.hid (HT.out.step hb); clear hb k0 k1 k2 k3 k4 k5 k6 k7 c0 c1 HC
  have k0 := HT.out.at_.get0; have k1 := HT.out.at_.get1; have k2 := HT.out.at_.get2; have k3 := HT.out.at_.get3; have k4 := HT.out.at_.get4; have k5 := HT.out.at_.get5; have k6 := HT.out.at_.get6; have k7 := HT.out.at_.get7; have c0 := HT.out.cat.get (k := 0) (by omega); have c1 := HT.out.cat.get (k := 1) (by omega)
  have HC := Lib.hid HT.out.cat
  go_wp2_with fail
  go_ret
  exact ⟨ret_int HR.out.symm, HT.out.bel⟩
set_option maxRecDepth 100000 in
set_option maxHeartbeats 4000000 in
theorem rchk_3 (c : Cfg) (x : K) (w : World) (h : okc c = true) (e_id : x.id = 0) (e_st : x.st = 0) (e_own : x.own = 0) (e_born : x.born = 0) (hk : x.kind = 3) : Calls Tryz.prog 59 #[c.V, x.V] w (Num w (rchk c x)) := by
 have HT := Lib.hid (Duo.new w c x)
 have CG := Lib.hid (fun W => good_any c W)
 have CF := Lib.hid (fun W => rfloor_any c x.dto W)
 have CE := Lib.hid (fun W => rfloor_any c x.frm W)
 rw [h] at CG
 have d_e_id : decide (x.id = 0) = true := (by simpa using e_id); have n_e_id : (x.id != 0) = false := (by simpa using e_id); have q_e_id : (x.id == 0) = true := (by simpa using e_id)
 have d_e_st : decide (x.st = 0) = true := (by simpa using e_st); have n_e_st : (x.st != 0) = false := (by simpa using e_st); have q_e_st : (x.st == 0) = true := (by simpa using e_st)
 have d_e_own : decide (x.own = 0) = true := (by simpa using e_own); have n_e_own : (x.own != 0) = false := (by simpa using e_own); have q_e_own : (x.own == 0) = true := (by simpa using e_own)
 have d_e_born : decide (x.born = 0) = true := (by simpa using e_born); have n_e_born : (x.born != 0) = false := (by simpa using e_born); have q_e_born : (x.born == 0) = true := (by simpa using e_born)
 have h1 : ¬ x.kind = 1 := by omega
 have d_h1 : decide (x.kind = 1) = false := (by simpa using h1); have n_h1 : (x.kind != 1) = true := (by simpa using h1); have q_h1 : (x.kind == 1) = false := (by simpa using h1)
 have h2 : ¬ x.kind = 2 := by omega
 have d_h2 : decide (x.kind = 2) = false := (by simpa using h2); have n_h2 : (x.kind != 2) = true := (by simpa using h2); have q_h2 : (x.kind == 2) = false := (by simpa using h2)
 have d_hk : decide (x.kind = 3) = true := (by simpa using hk); have n_hk : (x.kind != 3) = false := (by simpa using hk); have q_hk : (x.kind == 3) = true := (by simpa using hk)
 have h4 : ¬ x.kind = 4 := by omega
 have d_h4 : decide (x.kind = 4) = false := (by simpa using h4); have n_h4 : (x.kind != 4) = true := (by simpa using h4); have q_h4 : (x.kind == 4) = false := (by simpa using h4)
 by_cases a1 : x.frm = 0
 ·have d_a1 : decide (x.frm = 0) = true := (by simpa using a1); have n_a1 : (x.frm != 0) = false := (by simpa using a1); have q_a1 : (x.frm == 0) = true := (by simpa using a1)
  cases a2 : flB c x.dto
  ·rw [a2] at CF
   have HR : Hid (rchk c x = 1) := Lib.hid (by simp [rchk, rask, h, e_id, e_st, e_own, e_born, hk, a1, a2])
   clear a1 a2
   go_enter Tryz.func59, Tryz.ntmps59
   go_upto_region 1 with fail
   obtain ⟨W, hW⟩ : ∃ W, (w.alloc (.cells c.cells 24)).alloc (.cells x.cells 46) = W := ⟨_, rfl⟩
   rw [hW] at HT ⊢; clear hW
   generalize w.heap.size + 1 = p at HT ⊢
   generalize w.heap.size = g at HT ⊢
   have k0 := HT.out.at_.get0; have k1 := HT.out.at_.get1; have k2 := HT.out.at_.get2; have k3 := HT.out.at_.get3; have k4 := HT.out.at_.get4; have k5 := HT.out.at_.get5; have k6 := HT.out.at_.get6; have k7 := HT.out.at_.get7; have c0 := HT.out.cat.get (k := 0) (by omega); have c1 := HT.out.cat.get (k := 1) (by omega)
   have HC := Lib.hid HT.out.cat
   go_wp2_with ((with_reducible apply wpList_load_cat (h := HC.out)); exact rfl; exact rfl; exact rfl)
   refine (CG.out _).mono ?_
   rintro e w1 ⟨rfl, hb⟩
   have HT := Lib.hid (HT.out.step hb); clear hb k0 k1 k2 k3 k4 k5 k6 k7 c0 c1 HC
   have k0 := HT.out.at_.get0; have k1 := HT.out.at_.get1; have k2 := HT.out.at_.get2; have k3 := HT.out.at_.get3; have k4 := HT.out.at_.get4; have k5 := HT.out.at_.get5; have k6 := HT.out.at_.get6; have k7 := HT.out.at_.get7; have c0 := HT.out.cat.get (k := 0) (by omega); have c1 := HT.out.cat.get (k := 1) (by omega)
   have HC := Lib.hid HT.out.cat
   go_wp2_with ((with_reducible apply wpList_load_cat (h := HC.out)); exact rfl; exact rfl; exact rfl)
   refine (CF.out _).mono ?_
   rintro e w2 ⟨rfl, hb⟩
   have HT := Lib.hid (HT.out.step hb); clear hb k0 k1 k2 k3 k4 k5 k6 k7 c0 c1 HC
   have k0 := HT.out.at_.get0; have k1 := HT.out.at_.get1; have k2 := HT.out.at_.get2; have k3 := HT.out.at_.get3; have k4 := HT.out.at_.get4; have k5 := HT.out.at_.get5; have k6 := HT.out.at_.get6; have k7 := HT.out.at_.get7; have c0 := HT.out.cat.get (k := 0) (by omega); have c1 := HT.out.cat.get (k := 1) (by omega)
   have HC := Lib.hid HT.out.cat
   go_wp2_with fail
   go_ret
   exact ⟨ret_int HR.out.symm, HT.out.bel⟩
  ·rw [a2] at CF
   by_cases a3 : 0 < x.car
   ·have d_a3 : decide (0 < x.car) = true := (by simpa using a3)
    by_cases a4 : x.car ≤ c.get 1
    ·have d_a4 : decide (x.car ≤ c.get 1) = true := (by simpa using a4)
     have HR : Hid (rchk c x = 0) := Lib.hid (by simp [rchk, rask, h, e_id, e_st, e_own, e_born, hk, a1, a2, a3, a4])
     clear a1 a2 a3 a4
     go_enter Tryz.func59, Tryz.ntmps59
     go_upto_region 1 with fail
     obtain ⟨W, hW⟩ : ∃ W, (w.alloc (.cells c.cells 24)).alloc (.cells x.cells 46) = W := ⟨_, rfl⟩
     rw [hW] at HT ⊢; clear hW
     generalize w.heap.size + 1 = p at HT ⊢
     generalize w.heap.size = g at HT ⊢
     have k0 := HT.out.at_.get0; have k1 := HT.out.at_.get1; have k2 := HT.out.at_.get2; have k3 := HT.out.at_.get3; have k4 := HT.out.at_.get4; have k5 := HT.out.at_.get5; have k6 := HT.out.at_.get6; have k7 := HT.out.at_.get7; have c0 := HT.out.cat.get (k := 0) (by omega); have c1 := HT.out.cat.get (k := 1) (by omega)
     have HC := Lib.hid HT.out.cat
     go_wp2_with ((with_reducible apply wpList_load_cat (h := HC.out)); exact rfl; exact rfl; exact rfl)
     refine (CG.out _).mono ?_
     rintro e w1 ⟨rfl, hb⟩
     have HT := Lib.hid (HT.out.step hb); clear hb k0 k1 k2 k3 k4 k5 k6 k7 c0 c1 HC
     have k0 := HT.out.at_.get0; have k1 := HT.out.at_.get1; have k2 := HT.out.at_.get2; have k3 := HT.out.at_.get3; have k4 := HT.out.at_.get4; have k5 := HT.out.at_.get5; have k6 := HT.out.at_.get6; have k7 := HT.out.at_.get7; have c0 := HT.out.cat.get (k := 0) (by omega); have c1 := HT.out.cat.get (k := 1) (by omega)
     have HC := Lib.hid HT.out.cat
     go_wp2_with ((with_reducible apply wpList_load_cat (h := HC.out)); exact rfl; exact rfl; exact rfl)
     refine (CF.out _).mono ?_
     rintro e w2 ⟨rfl, hb⟩
     have HT := Lib.hid (HT.out.step hb); clear hb k0 k1 k2 k3 k4 k5 k6 k7 c0 c1 HC
     have k0 := HT.out.at_.get0; have k1 := HT.out.at_.get1; have k2 := HT.out.at_.get2; have k3 := HT.out.at_.get3; have k4 := HT.out.at_.get4; have k5 := HT.out.at_.get5; have k6 := HT.out.at_.get6; have k7 := HT.out.at_.get7; have c0 := HT.out.cat.get (k := 0) (by omega); have c1 := HT.out.cat.get (k := 1) (by omega)
     have HC := Lib.hid HT.out.cat
     go_wp2_with fail
     go_ret
     exact ⟨ret_int HR.out.symm, HT.out.bel⟩
    ·have d_a4 : decide (x.car ≤ c.get 1) = false := (by simpa using a4)
     have HR : Hid (rchk c x = 1) := Lib.hid (by simp [rchk, rask, h, e_id, e_st, e_own, e_born, hk, a1, a2, a3, a4])
     clear a1 a2 a3 a4
     go_enter Tryz.func59, Tryz.ntmps59
     go_upto_region 1 with fail
     obtain ⟨W, hW⟩ : ∃ W, (w.alloc (.cells c.cells 24)).alloc (.cells x.cells 46) = W := ⟨_, rfl⟩
     rw [hW] at HT ⊢; clear hW
     generalize w.heap.size + 1 = p at HT ⊢
     generalize w.heap.size = g at HT ⊢
     have k0 := HT.out.at_.get0; have k1 := HT.out.at_.get1; have k2 := HT.out.at_.get2; have k3 := HT.out.at_.get3; have k4 := HT.out.at_.get4; have k5 := HT.out.at_.get5; have k6 := HT.out.at_.get6; have k7 := HT.out.at_.get7; have c0 := HT.out.cat.get (k := 0) (by omega); have c1 := HT.out.cat.get (k := 1) (by omega)
     have HC := Lib.hid HT.out.cat
     go_wp2_with ((with_reducible apply wpList_load_cat (h := HC.out)); exact rfl; exact rfl; exact rfl)
     refine (CG.out _).mono ?_
     rintro e w1 ⟨rfl, hb⟩
     have HT := Lib.hid (HT.out.step hb); clear hb k0 k1 k2 k3 k4 k5 k6 k7 c0 c1 HC
     have k0 := HT.out.at_.get0; have k1 := HT.out.at_.get1; have k2 := HT.out.at_.get2; have k3 := HT.out.at_.get3; have k4 := HT.out.at_.get4; have k5 := HT.out.at_.get5; have k6 := HT.out.at_.get6; have k7 := HT.out.at_.get7; have c0 := HT.out.cat.get (k := 0) (by omega); have c1 := HT.out.cat.get (k := 1) (by omega)
     have HC := Lib.hid HT.out.cat
     go_wp2_with ((with_reducible apply wpList_load_cat (h := HC.out)); exact rfl; exact rfl; exact rfl)
     refine (CF.out _).mono ?_
     rintro e w2 ⟨rfl, hb⟩
     have HT := Lib.hid (HT.out.step hb); clear hb k0 k1 k2 k3 k4 k5 k6 k7 c0 c1 HC
     have k0 := HT.out.at_.get0; have k1 := HT.out.at_.get1; have k2 := HT.out.at_.get2; have k3 := HT.out.at_.get3; have k4 := HT.out.at_.get4; have k5 := HT.out.at_.get5; have k6 := HT.out.at_.get6; have k7 := HT.out.at_.get7; have c0 := HT.out.cat.get (k := 0) (by omega); have c1 := HT.out.cat.get (k := 1) (by omega)
     have HC := Lib.hid HT.out.cat
     go_wp2_with fail
     go_ret
     exact ⟨ret_int HR.out.symm, HT.out.bel⟩
   ·have d_a3 : decide (0 < x.car) = false := (by simpa using a3)
    have HR : Hid (rchk c x = 1) := Lib.hid (by simp [rchk, rask, h, e_id, e_st, e_own, e_born, hk, a1, a2, a3])
    clear a1 a2 a3
    go_enter Tryz.func59, Tryz.ntmps59
    go_upto_region 1 with fail
    obtain ⟨W, hW⟩ : ∃ W, (w.alloc (.cells c.cells 24)).alloc (.cells x.cells 46) = W := ⟨_, rfl⟩
    rw [hW] at HT ⊢; clear hW
    generalize w.heap.size + 1 = p at HT ⊢
    generalize w.heap.size = g at HT ⊢
    have k0 := HT.out.at_.get0; have k1 := HT.out.at_.get1; have k2 := HT.out.at_.get2; have k3 := HT.out.at_.get3; have k4 := HT.out.at_.get4; have k5 := HT.out.at_.get5; have k6 := HT.out.at_.get6; have k7 := HT.out.at_.get7; have c0 := HT.out.cat.get (k := 0) (by omega); have c1 := HT.out.cat.get (k := 1) (by omega)
    have HC := Lib.hid HT.out.cat
    go_wp2_with ((with_reducible apply wpList_load_cat (h := HC.out)); exact rfl; exact rfl; exact rfl)
    refine (CG.out _).mono ?_
    rintro e w1 ⟨rfl, hb⟩
    have HT := Lib.hid (HT.out.step hb); clear hb k0 k1 k2 k3 k4 k5 k6 k7 c0 c1 HC
    have k0 := HT.out.at_.get0; have k1 := HT.out.at_.get1; have k2 := HT.out.at_.get2; have k3 := HT.out.at_.get3; have k4 := HT.out.at_.get4; have k5 := HT.out.at_.get5; have k6 := HT.out.at_.get6; have k7 := HT.out.at_.get7; have c0 := HT.out.cat.get (k := 0) (by omega); have c1 := HT.out.cat.get (k := 1) (by omega)
    have HC := Lib.hid HT.out.cat
    go_wp2_with ((with_reducible apply wpList_load_cat (h := HC.out)); exact rfl; exact rfl; exact rfl)
    refine (CF.out _).mono ?_
    rintro e w2 ⟨rfl, hb⟩
    have HT := Lib.hid (HT.out.step hb); clear hb k0 k1 k2 k3 k4 k5 k6 k7 c0 c1 HC
    have k0 := HT.out.at_.get0; have k1 := HT.out.at_.get1; have k2 := HT.out.at_.get2; have k3 := HT.out.at_.get3; have k4 := HT.out.at_.get4; have k5 := HT.out.at_.get5; have k6 := HT.out.at_.get6; have k7 := HT.out.at_.get7; have c0 := HT.out.cat.get (k := 0) (by omega); have c1 := HT.out.cat.get (k := 1) (by omega)
    have HC := Lib.hid HT.out.cat
    go_wp2_with fail
    go_ret
    exact ⟨ret_int HR.out.symm, HT.out.bel⟩
 ·have d_a1 : decide (x.frm = 0) = false := (by simpa using a1); have n_a1 : (x.frm != 0) = true := (by simpa using a1); have q_a1 : (x.frm == 0) = false := (by simpa using a1)
  have HR : Hid (rchk c x = 1) := Lib.hid (by simp [rchk, rask, h, e_id, e_st, e_own, e_born, hk, a1])
  clear a1
  go_enter Tryz.func59, Tryz.ntmps59
  go_upto_region 1 with fail
  obtain ⟨W, hW⟩ : ∃ W, (w.alloc (.cells c.cells 24)).alloc (.cells x.cells 46) = W := ⟨_, rfl⟩
  rw [hW] at HT ⊢; clear hW
  generalize w.heap.size + 1 = p at HT ⊢
  generalize w.heap.size = g at HT ⊢
  have k0 := HT.out.at_.get0; have k1 := HT.out.at_.get1; have k2 := HT.out.at_.get2; have k3 := HT.out.at_.get3; have k4 := HT.out.at_.get4; have k5 := HT.out.at_.get5; have k6 := HT.out.at_.get6; have k7 := HT.out.at_.get7; have c0 := HT.out.cat.get (k := 0) (by omega); have c1 := HT.out.cat.get (k := 1) (by omega)
  have HC := Lib.hid HT.out.cat
  go_wp2_with ((with_reducible apply wpList_load_cat (h := HC.out)); exact rfl; exact rfl; exact rfl)
  refine (CG.out _).mono ?_
  rintro e w1 ⟨rfl, hb⟩
  have HT := Lib.hid (HT.out.step hb); clear hb k0 k1 k2 k3 k4 k5 k6 k7 c0 c1 HC
  have k0 := HT.out.at_.get0; have k1 := HT.out.at_.get1; have k2 := HT.out.at_.get2; have k3 := HT.out.at_.get3; have k4 := HT.out.at_.get4; have k5 := HT.out.at_.get5; have k6 := HT.out.at_.get6; have k7 := HT.out.at_.get7; have c0 := HT.out.cat.get (k := 0) (by omega); have c1 := HT.out.cat.get (k := 1) (by omega)
  have HC := Lib.hid HT.out.cat
  go_wp2_with fail
  go_ret
  exact ⟨ret_int HR.out.symm, HT.out.bel⟩
set_option maxRecDepth 100000 in
set_option maxHeartbeats 4000000 in
theorem rchk_4 (c : Cfg) (x : K) (w : World) (h : okc c = true) (e_id : x.id = 0) (e_st : x.st = 0) (e_own : x.own = 0) (e_born : x.born = 0) (hk : x.kind = 4) : Calls Tryz.prog 59 #[c.V, x.V] w (Num w (rchk c x)) := by
 have HT := Lib.hid (Duo.new w c x)
 have CG := Lib.hid (fun W => good_any c W)
 have CF := Lib.hid (fun W => rfloor_any c x.dto W)
 have CE := Lib.hid (fun W => rfloor_any c x.frm W)
 rw [h] at CG
 have d_e_id : decide (x.id = 0) = true := (by simpa using e_id); have n_e_id : (x.id != 0) = false := (by simpa using e_id); have q_e_id : (x.id == 0) = true := (by simpa using e_id)
 have d_e_st : decide (x.st = 0) = true := (by simpa using e_st); have n_e_st : (x.st != 0) = false := (by simpa using e_st); have q_e_st : (x.st == 0) = true := (by simpa using e_st)
 have d_e_own : decide (x.own = 0) = true := (by simpa using e_own); have n_e_own : (x.own != 0) = false := (by simpa using e_own); have q_e_own : (x.own == 0) = true := (by simpa using e_own)
 have d_e_born : decide (x.born = 0) = true := (by simpa using e_born); have n_e_born : (x.born != 0) = false := (by simpa using e_born); have q_e_born : (x.born == 0) = true := (by simpa using e_born)
 have h1 : ¬ x.kind = 1 := by omega
 have d_h1 : decide (x.kind = 1) = false := (by simpa using h1); have n_h1 : (x.kind != 1) = true := (by simpa using h1); have q_h1 : (x.kind == 1) = false := (by simpa using h1)
 have h2 : ¬ x.kind = 2 := by omega
 have d_h2 : decide (x.kind = 2) = false := (by simpa using h2); have n_h2 : (x.kind != 2) = true := (by simpa using h2); have q_h2 : (x.kind == 2) = false := (by simpa using h2)
 have h3 : ¬ x.kind = 3 := by omega
 have d_h3 : decide (x.kind = 3) = false := (by simpa using h3); have n_h3 : (x.kind != 3) = true := (by simpa using h3); have q_h3 : (x.kind == 3) = false := (by simpa using h3)
 have d_hk : decide (x.kind = 4) = true := (by simpa using hk); have n_hk : (x.kind != 4) = false := (by simpa using hk); have q_hk : (x.kind == 4) = true := (by simpa using hk)
 cases a1 : flB c x.frm
 ·rw [a1] at CE
  have HR : Hid (rchk c x = 1) := Lib.hid (by simp [rchk, rask, h, e_id, e_st, e_own, e_born, hk, a1])
  clear a1
  go_enter Tryz.func59, Tryz.ntmps59
  go_upto_region 1 with fail
  obtain ⟨W, hW⟩ : ∃ W, (w.alloc (.cells c.cells 24)).alloc (.cells x.cells 46) = W := ⟨_, rfl⟩
  rw [hW] at HT ⊢; clear hW
  generalize w.heap.size + 1 = p at HT ⊢
  generalize w.heap.size = g at HT ⊢
  have k0 := HT.out.at_.get0; have k1 := HT.out.at_.get1; have k2 := HT.out.at_.get2; have k3 := HT.out.at_.get3; have k4 := HT.out.at_.get4; have k5 := HT.out.at_.get5; have k6 := HT.out.at_.get6; have k7 := HT.out.at_.get7; have c0 := HT.out.cat.get (k := 0) (by omega); have c1 := HT.out.cat.get (k := 1) (by omega)
  have HC := Lib.hid HT.out.cat
  go_wp2_with ((with_reducible apply wpList_load_cat (h := HC.out)); exact rfl; exact rfl; exact rfl)
  refine (CG.out _).mono ?_
  rintro e w1 ⟨rfl, hb⟩
  have HT := Lib.hid (HT.out.step hb); clear hb k0 k1 k2 k3 k4 k5 k6 k7 c0 c1 HC
  have k0 := HT.out.at_.get0; have k1 := HT.out.at_.get1; have k2 := HT.out.at_.get2; have k3 := HT.out.at_.get3; have k4 := HT.out.at_.get4; have k5 := HT.out.at_.get5; have k6 := HT.out.at_.get6; have k7 := HT.out.at_.get7; have c0 := HT.out.cat.get (k := 0) (by omega); have c1 := HT.out.cat.get (k := 1) (by omega)
  have HC := Lib.hid HT.out.cat
  go_wp2_with ((with_reducible apply wpList_load_cat (h := HC.out)); exact rfl; exact rfl; exact rfl)
  refine (CE.out _).mono ?_
  rintro e w2 ⟨rfl, hb⟩
  have HT := Lib.hid (HT.out.step hb); clear hb k0 k1 k2 k3 k4 k5 k6 k7 c0 c1 HC
  have k0 := HT.out.at_.get0; have k1 := HT.out.at_.get1; have k2 := HT.out.at_.get2; have k3 := HT.out.at_.get3; have k4 := HT.out.at_.get4; have k5 := HT.out.at_.get5; have k6 := HT.out.at_.get6; have k7 := HT.out.at_.get7; have c0 := HT.out.cat.get (k := 0) (by omega); have c1 := HT.out.cat.get (k := 1) (by omega)
  have HC := Lib.hid HT.out.cat
  go_wp2_with fail
  go_ret
  exact ⟨ret_int HR.out.symm, HT.out.bel⟩
 ·rw [a1] at CE
  cases a2 : flB c x.dto
  ·rw [a2] at CF
   have HR : Hid (rchk c x = 1) := Lib.hid (by simp [rchk, rask, h, e_id, e_st, e_own, e_born, hk, a1, a2])
   clear a1 a2
   go_enter Tryz.func59, Tryz.ntmps59
   go_upto_region 1 with fail
   obtain ⟨W, hW⟩ : ∃ W, (w.alloc (.cells c.cells 24)).alloc (.cells x.cells 46) = W := ⟨_, rfl⟩
   rw [hW] at HT ⊢; clear hW
   generalize w.heap.size + 1 = p at HT ⊢
   generalize w.heap.size = g at HT ⊢
   have k0 := HT.out.at_.get0; have k1 := HT.out.at_.get1; have k2 := HT.out.at_.get2; have k3 := HT.out.at_.get3; have k4 := HT.out.at_.get4; have k5 := HT.out.at_.get5; have k6 := HT.out.at_.get6; have k7 := HT.out.at_.get7; have c0 := HT.out.cat.get (k := 0) (by omega); have c1 := HT.out.cat.get (k := 1) (by omega)
   have HC := Lib.hid HT.out.cat
   go_wp2_with ((with_reducible apply wpList_load_cat (h := HC.out)); exact rfl; exact rfl; exact rfl)
   refine (CG.out _).mono ?_
   rintro e w1 ⟨rfl, hb⟩
   have HT := Lib.hid (HT.out.step hb); clear hb k0 k1 k2 k3 k4 k5 k6 k7 c0 c1 HC
   have k0 := HT.out.at_.get0; have k1 := HT.out.at_.get1; have k2 := HT.out.at_.get2; have k3 := HT.out.at_.get3; have k4 := HT.out.at_.get4; have k5 := HT.out.at_.get5; have k6 := HT.out.at_.get6; have k7 := HT.out.at_.get7; have c0 := HT.out.cat.get (k := 0) (by omega); have c1 := HT.out.cat.get (k := 1) (by omega)
   have HC := Lib.hid HT.out.cat
   go_wp2_with ((with_reducible apply wpList_load_cat (h := HC.out)); exact rfl; exact rfl; exact rfl)
   refine (CE.out _).mono ?_
   rintro e w2 ⟨rfl, hb⟩
   have HT := Lib.hid (HT.out.step hb); clear hb k0 k1 k2 k3 k4 k5 k6 k7 c0 c1 HC
   have k0 := HT.out.at_.get0; have k1 := HT.out.at_.get1; have k2 := HT.out.at_.get2; have k3 := HT.out.at_.get3; have k4 := HT.out.at_.get4; have k5 := HT.out.at_.get5; have k6 := HT.out.at_.get6; have k7 := HT.out.at_.get7; have c0 := HT.out.cat.get (k := 0) (by omega); have c1 := HT.out.cat.get (k := 1) (by omega)
   have HC := Lib.hid HT.out.cat
   go_wp2_with ((with_reducible apply wpList_load_cat (h := HC.out)); exact rfl; exact rfl; exact rfl)
   refine (CF.out _).mono ?_
   rintro e w3 ⟨rfl, hb⟩
   have HT := Lib.hid (HT.out.step hb); clear hb k0 k1 k2 k3 k4 k5 k6 k7 c0 c1 HC
   have k0 := HT.out.at_.get0; have k1 := HT.out.at_.get1; have k2 := HT.out.at_.get2; have k3 := HT.out.at_.get3; have k4 := HT.out.at_.get4; have k5 := HT.out.at_.get5; have k6 := HT.out.at_.get6; have k7 := HT.out.at_.get7; have c0 := HT.out.cat.get (k := 0) (by omega); have c1 := HT.out.cat.get (k := 1) (by omega)
   have HC := Lib.hid HT.out.cat
   go_wp2_with fail
   go_ret
   exact ⟨ret_int HR.out.symm, HT.out.bel⟩
  ·rw [a2] at CF
   by_cases a3 : x.frm = x.dto
   ·have d_a3 : decide (x.frm = x.dto) = true := (by simpa using a3); have n_a3 : (x.frm != x.dto) = false := (by simpa using a3); have q_a3 : (x.frm == x.dto) = true := (by simpa using a3)
    have HR : Hid (rchk c x = 1) := Lib.hid (by simp [rchk, rask, h, e_id, e_st, e_own, e_born, hk, a1, a2, a3])
    clear a1 a2 a3
    go_enter Tryz.func59, Tryz.ntmps59
    go_upto_region 1 with fail
    obtain ⟨W, hW⟩ : ∃ W, (w.alloc (.cells c.cells 24)).alloc (.cells x.cells 46) = W := ⟨_, rfl⟩
    rw [hW] at HT ⊢; clear hW
    generalize w.heap.size + 1 = p at HT ⊢
    generalize w.heap.size = g at HT ⊢
    have k0 := HT.out.at_.get0; have k1 := HT.out.at_.get1; have k2 := HT.out.at_.get2; have k3 := HT.out.at_.get3; have k4 := HT.out.at_.get4; have k5 := HT.out.at_.get5; have k6 := HT.out.at_.get6; have k7 := HT.out.at_.get7; have c0 := HT.out.cat.get (k := 0) (by omega); have c1 := HT.out.cat.get (k := 1) (by omega)
    have HC := Lib.hid HT.out.cat
    go_wp2_with ((with_reducible apply wpList_load_cat (h := HC.out)); exact rfl; exact rfl; exact rfl)
    refine (CG.out _).mono ?_
    rintro e w1 ⟨rfl, hb⟩
    have HT := Lib.hid (HT.out.step hb); clear hb k0 k1 k2 k3 k4 k5 k6 k7 c0 c1 HC
    have k0 := HT.out.at_.get0; have k1 := HT.out.at_.get1; have k2 := HT.out.at_.get2; have k3 := HT.out.at_.get3; have k4 := HT.out.at_.get4; have k5 := HT.out.at_.get5; have k6 := HT.out.at_.get6; have k7 := HT.out.at_.get7; have c0 := HT.out.cat.get (k := 0) (by omega); have c1 := HT.out.cat.get (k := 1) (by omega)
    have HC := Lib.hid HT.out.cat
    go_wp2_with ((with_reducible apply wpList_load_cat (h := HC.out)); exact rfl; exact rfl; exact rfl)
    refine (CE.out _).mono ?_
    rintro e w2 ⟨rfl, hb⟩
    have HT := Lib.hid (HT.out.step hb); clear hb k0 k1 k2 k3 k4 k5 k6 k7 c0 c1 HC
    have k0 := HT.out.at_.get0; have k1 := HT.out.at_.get1; have k2 := HT.out.at_.get2; have k3 := HT.out.at_.get3; have k4 := HT.out.at_.get4; have k5 := HT.out.at_.get5; have k6 := HT.out.at_.get6; have k7 := HT.out.at_.get7; have c0 := HT.out.cat.get (k := 0) (by omega); have c1 := HT.out.cat.get (k := 1) (by omega)
    have HC := Lib.hid HT.out.cat
    go_wp2_with ((with_reducible apply wpList_load_cat (h := HC.out)); exact rfl; exact rfl; exact rfl)
    refine (CF.out _).mono ?_
    rintro e w3 ⟨rfl, hb⟩
    have HT := Lib.hid (HT.out.step hb); clear hb k0 k1 k2 k3 k4 k5 k6 k7 c0 c1 HC
    have k0 := HT.out.at_.get0; have k1 := HT.out.at_.get1; have k2 := HT.out.at_.get2; have k3 := HT.out.at_.get3; have k4 := HT.out.at_.get4; have k5 := HT.out.at_.get5; have k6 := HT.out.at_.get6; have k7 := HT.out.at_.get7; have c0 := HT.out.cat.get (k := 0) (by omega); have c1 := HT.out.cat.get (k := 1) (by omega)
    have HC := Lib.hid HT.out.cat
    go_wp2_with fail
    go_ret
    exact ⟨ret_int HR.out.symm, HT.out.bel⟩
   ·have d_a3 : decide (x.frm = x.dto) = false := (by simpa using a3); have n_a3 : (x.frm != x.dto) = true := (by simpa using a3); have q_a3 : (x.frm == x.dto) = false := (by simpa using a3)
    by_cases a4 : x.car = 0
    ·have d_a4 : decide (x.car = 0) = true := (by simpa using a4); have n_a4 : (x.car != 0) = false := (by simpa using a4); have q_a4 : (x.car == 0) = true := (by simpa using a4)
     have HR : Hid (rchk c x = 0) := Lib.hid (by simp [rchk, rask, h, e_id, e_st, e_own, e_born, hk, a1, a2, a3, a4])
     clear a1 a2 a3 a4
     go_enter Tryz.func59, Tryz.ntmps59
     go_upto_region 1 with fail
     obtain ⟨W, hW⟩ : ∃ W, (w.alloc (.cells c.cells 24)).alloc (.cells x.cells 46) = W := ⟨_, rfl⟩
     rw [hW] at HT ⊢; clear hW
     generalize w.heap.size + 1 = p at HT ⊢
     generalize w.heap.size = g at HT ⊢
     have k0 := HT.out.at_.get0; have k1 := HT.out.at_.get1; have k2 := HT.out.at_.get2; have k3 := HT.out.at_.get3; have k4 := HT.out.at_.get4; have k5 := HT.out.at_.get5; have k6 := HT.out.at_.get6; have k7 := HT.out.at_.get7; have c0 := HT.out.cat.get (k := 0) (by omega); have c1 := HT.out.cat.get (k := 1) (by omega)
     have HC := Lib.hid HT.out.cat
     go_wp2_with ((with_reducible apply wpList_load_cat (h := HC.out)); exact rfl; exact rfl; exact rfl)
     refine (CG.out _).mono ?_
     rintro e w1 ⟨rfl, hb⟩
     have HT := Lib.hid (HT.out.step hb); clear hb k0 k1 k2 k3 k4 k5 k6 k7 c0 c1 HC
     have k0 := HT.out.at_.get0; have k1 := HT.out.at_.get1; have k2 := HT.out.at_.get2; have k3 := HT.out.at_.get3; have k4 := HT.out.at_.get4; have k5 := HT.out.at_.get5; have k6 := HT.out.at_.get6; have k7 := HT.out.at_.get7; have c0 := HT.out.cat.get (k := 0) (by omega); have c1 := HT.out.cat.get (k := 1) (by omega)
     have HC := Lib.hid HT.out.cat
     go_wp2_with ((with_reducible apply wpList_load_cat (h := HC.out)); exact rfl; exact rfl; exact rfl)
     refine (CE.out _).mono ?_
     rintro e w2 ⟨rfl, hb⟩
     have HT := Lib.hid (HT.out.step hb); clear hb k0 k1 k2 k3 k4 k5 k6 k7 c0 c1 HC
     have k0 := HT.out.at_.get0; have k1 := HT.out.at_.get1; have k2 := HT.out.at_.get2; have k3 := HT.out.at_.get3; have k4 := HT.out.at_.get4; have k5 := HT.out.at_.get5; have k6 := HT.out.at_.get6; have k7 := HT.out.at_.get7; have c0 := HT.out.cat.get (k := 0) (by omega); have c1 := HT.out.cat.get (k := 1) (by omega)
     have HC := Lib.hid HT.out.cat
     go_wp2_with ((with_reducible apply wpList_load_cat (h := HC.out)); exact rfl; exact rfl; exact rfl)
     refine (CF.out _).mono ?_
     rintro e w3 ⟨rfl, hb⟩
     have HT := Lib.hid (HT.out.step hb); clear hb k0 k1 k2 k3 k4 k5 k6 k7 c0 c1 HC
     have k0 := HT.out.at_.get0; have k1 := HT.out.at_.get1; have k2 := HT.out.at_.get2; have k3 := HT.out.at_.get3; have k4 := HT.out.at_.get4; have k5 := HT.out.at_.get5; have k6 := HT.out.at_.get6; have k7 := HT.out.at_.get7; have c0 := HT.out.cat.get (k := 0) (by omega); have c1 := HT.out.cat.get (k := 1) (by omega)
     have HC := Lib.hid HT.out.cat
     go_wp2_with fail
     go_ret
     exact ⟨ret_int HR.out.symm, HT.out.bel⟩
    ·have d_a4 : decide (x.car = 0) = false := (by simpa using a4); have n_a4 : (x.car != 0) = true := (by simpa using a4); have q_a4 : (x.car == 0) = false := (by simpa using a4)
     have HR : Hid (rchk c x = 1) := Lib.hid (by simp [rchk, rask, h, e_id, e_st, e_own, e_born, hk, a1, a2, a3, a4])
     clear a1 a2 a3 a4
     go_enter Tryz.func59, Tryz.ntmps59
     go_upto_region 1 with fail
     obtain ⟨W, hW⟩ : ∃ W, (w.alloc (.cells c.cells 24)).alloc (.cells x.cells 46) = W := ⟨_, rfl⟩
     rw [hW] at HT ⊢; clear hW
     generalize w.heap.size + 1 = p at HT ⊢
     generalize w.heap.size = g at HT ⊢
     have k0 := HT.out.at_.get0; have k1 := HT.out.at_.get1; have k2 := HT.out.at_.get2; have k3 := HT.out.at_.get3; have k4 := HT.out.at_.get4; have k5 := HT.out.at_.get5; have k6 := HT.out.at_.get6; have k7 := HT.out.at_.get7; have c0 := HT.out.cat.get (k := 0) (by omega); have c1 := HT.out.cat.get (k := 1) (by omega)
     have HC := Lib.hid HT.out.cat
     go_wp2_with ((with_reducible apply wpList_load_cat (h := HC.out)); exact rfl; exact rfl; exact rfl)
     refine (CG.out _).mono ?_
     rintro e w1 ⟨rfl, hb⟩
     have HT := Lib.hid (HT.out.step hb); clear hb k0 k1 k2 k3 k4 k5 k6 k7 c0 c1 HC
     have k0 := HT.out.at_.get0; have k1 := HT.out.at_.get1; have k2 := HT.out.at_.get2; have k3 := HT.out.at_.get3; have k4 := HT.out.at_.get4; have k5 := HT.out.at_.get5; have k6 := HT.out.at_.get6; have k7 := HT.out.at_.get7; have c0 := HT.out.cat.get (k := 0) (by omega); have c1 := HT.out.cat.get (k := 1) (by omega)
     have HC := Lib.hid HT.out.cat
     go_wp2_with ((with_reducible apply wpList_load_cat (h := HC.out)); exact rfl; exact rfl; exact rfl)
     refine (CE.out _).mono ?_
     rintro e w2 ⟨rfl, hb⟩
     have HT := Lib.hid (HT.out.step hb); clear hb k0 k1 k2 k3 k4 k5 k6 k7 c0 c1 HC
     have k0 := HT.out.at_.get0; have k1 := HT.out.at_.get1; have k2 := HT.out.at_.get2; have k3 := HT.out.at_.get3; have k4 := HT.out.at_.get4; have k5 := HT.out.at_.get5; have k6 := HT.out.at_.get6; have k7 := HT.out.at_.get7; have c0 := HT.out.cat.get (k := 0) (by omega); have c1 := HT.out.cat.get (k := 1) (by omega)
     have HC := Lib.hid HT.out.cat
     go_wp2_with ((with_reducible apply wpList_load_cat (h := HC.out)); exact rfl; exact rfl; exact rfl)
     refine (CF.out _).mono ?_
     rintro e w3 ⟨rfl, hb⟩
     have HT := Lib.hid (HT.out.step hb); clear hb k0 k1 k2 k3 k4 k5 k6 k7 c0 c1 HC
     have k0 := HT.out.at_.get0; have k1 := HT.out.at_.get1; have k2 := HT.out.at_.get2; have k3 := HT.out.at_.get3; have k4 := HT.out.at_.get4; have k5 := HT.out.at_.get5; have k6 := HT.out.at_.get6; have k7 := HT.out.at_.get7; have c0 := HT.out.cat.get (k := 0) (by omega); have c1 := HT.out.cat.get (k := 1) (by omega)
     have HC := Lib.hid HT.out.cat
     go_wp2_with fail
     go_ret
     exact ⟨ret_int HR.out.symm, HT.out.bel⟩
set_option maxRecDepth 100000 in
set_option maxHeartbeats 4000000 in
theorem rchk_0 (c : Cfg) (x : K) (w : World) (h : okc c = true) (e_id : x.id = 0) (e_st : x.st = 0) (e_own : x.own = 0) (e_born : x.born = 0) (h1 : ¬ x.kind = 1) (h2 : ¬ x.kind = 2) (h3 : ¬ x.kind = 3) (h4 : ¬ x.kind = 4) : Calls Tryz.prog 59 #[c.V, x.V] w (Num w (rchk c x)) := by
 have HT := Lib.hid (Duo.new w c x)
 have CG := Lib.hid (fun W => good_any c W)
 have CF := Lib.hid (fun W => rfloor_any c x.dto W)
 have CE := Lib.hid (fun W => rfloor_any c x.frm W)
 rw [h] at CG
 have d_e_id : decide (x.id = 0) = true := (by simpa using e_id); have n_e_id : (x.id != 0) = false := (by simpa using e_id); have q_e_id : (x.id == 0) = true := (by simpa using e_id)
 have d_e_st : decide (x.st = 0) = true := (by simpa using e_st); have n_e_st : (x.st != 0) = false := (by simpa using e_st); have q_e_st : (x.st == 0) = true := (by simpa using e_st)
 have d_e_own : decide (x.own = 0) = true := (by simpa using e_own); have n_e_own : (x.own != 0) = false := (by simpa using e_own); have q_e_own : (x.own == 0) = true := (by simpa using e_own)
 have d_e_born : decide (x.born = 0) = true := (by simpa using e_born); have n_e_born : (x.born != 0) = false := (by simpa using e_born); have q_e_born : (x.born == 0) = true := (by simpa using e_born)
 have d_h1 : decide (x.kind = 1) = false := (by simpa using h1); have n_h1 : (x.kind != 1) = true := (by simpa using h1); have q_h1 : (x.kind == 1) = false := (by simpa using h1)
 have d_h2 : decide (x.kind = 2) = false := (by simpa using h2); have n_h2 : (x.kind != 2) = true := (by simpa using h2); have q_h2 : (x.kind == 2) = false := (by simpa using h2)
 have d_h3 : decide (x.kind = 3) = false := (by simpa using h3); have n_h3 : (x.kind != 3) = true := (by simpa using h3); have q_h3 : (x.kind == 3) = false := (by simpa using h3)
 have d_h4 : decide (x.kind = 4) = false := (by simpa using h4); have n_h4 : (x.kind != 4) = true := (by simpa using h4); have q_h4 : (x.kind == 4) = false := (by simpa using h4)
 have HR : Hid (rchk c x = 1) := Lib.hid (by simp [rchk, rask, h, e_id, e_st, e_own, e_born, h1, h2, h3, h4])
 go_enter Tryz.func59, Tryz.ntmps59
 go_upto_region 1 with fail
 obtain ⟨W, hW⟩ : ∃ W, (w.alloc (.cells c.cells 24)).alloc (.cells x.cells 46) = W := ⟨_, rfl⟩
 rw [hW] at HT ⊢; clear hW
 generalize w.heap.size + 1 = p at HT ⊢
 generalize w.heap.size = g at HT ⊢
 have k0 := HT.out.at_.get0; have k1 := HT.out.at_.get1; have k2 := HT.out.at_.get2; have k3 := HT.out.at_.get3; have k4 := HT.out.at_.get4; have k5 := HT.out.at_.get5; have k6 := HT.out.at_.get6; have k7 := HT.out.at_.get7; have c0 := HT.out.cat.get (k := 0) (by omega); have c1 := HT.out.cat.get (k := 1) (by omega)
 have HC := Lib.hid HT.out.cat
 go_wp2_with ((with_reducible apply wpList_load_cat (h := HC.out)); exact rfl; exact rfl; exact rfl)
 refine (CG.out _).mono ?_
 rintro e w1 ⟨rfl, hb⟩
 have HT := Lib.hid (HT.out.step hb); clear hb k0 k1 k2 k3 k4 k5 k6 k7 c0 c1 HC
 have k0 := HT.out.at_.get0; have k1 := HT.out.at_.get1; have k2 := HT.out.at_.get2; have k3 := HT.out.at_.get3; have k4 := HT.out.at_.get4; have k5 := HT.out.at_.get5; have k6 := HT.out.at_.get6; have k7 := HT.out.at_.get7; have c0 := HT.out.cat.get (k := 0) (by omega); have c1 := HT.out.cat.get (k := 1) (by omega)
 have HC := Lib.hid HT.out.cat
 go_wp2_with fail
 go_ret
 exact ⟨ret_int HR.out.symm, HT.out.bel⟩
theorem rcheck_any (c : Cfg) (x : K) (w : World) : Calls Tryz.prog 59 #[c.V, x.V] w (Num w (chkK c x)) := by
 rw [← rchk_eq]
 cases h : okc c
 ·exact rchk_no c x w h
 ·by_cases hn : x.id = 0 ∧ x.st = 0 ∧ x.own = 0 ∧ x.born = 0
  ·obtain ⟨e1, e2, e3, e4⟩ := hn
   by_cases h1 : x.kind = 1
   ·exact rchk_1 c x w h e1 e2 e3 e4 h1
   ·by_cases h2 : x.kind = 2
    ·exact rchk_2 c x w h e1 e2 e3 e4 h2
    ·by_cases h3 : x.kind = 3
     ·exact rchk_3 c x w h e1 e2 e3 e4 h3
     ·by_cases h4 : x.kind = 4
      ·exact rchk_4 c x w h e1 e2 e3 e4 h4
      ·exact rchk_0 c x w h e1 e2 e3 e4 h1 h2 h3 h4
  ·exact rchk_bad c x w h hn
end Go.Proofs.YtplapoenhohliaaGreat
