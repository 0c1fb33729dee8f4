import Derived.Test.YtplapoenhohliaaGreatStD
namespace Go.Proofs.YtplapoenhohliaaGreat
open Go.RowKit Go.Lib
set_option linter.unusedVariables false
set_option linter.unusedSimpArgs false
def K.hall (x : K) : K := ⟨0, x.kind, x.frm, 0, 0, 0, 0, 0⟩
def K.ins (x : K) : K := ⟨0, x.kind, 0, x.dto, x.car, 0, 0, 0⟩
def K.trip (x : K) : K := ⟨0, x.kind, x.frm, x.dto, 0, 0, 0, 0⟩
def ask1 (c : Cfg) (x : K) : Bool := x.beq x.hall && isB c 0 x.frm && decide (x.frm < c.get 0)
def ask2 (c : Cfg) (x : K) : Bool := x.beq x.hall && isB c 0 x.frm && decide (1 < x.frm)
def ask3 (c : Cfg) (x : K) : Bool := x.beq x.ins && isB c 0 x.dto && isB c 1 x.car
def ask4 (c : Cfg) (x : K) : Bool := x.beq x.trip && isB c 0 x.frm && isB c 0 x.dto && decide (x.frm ≠ x.dto)
def askK (c : Cfg) (x : K) : Bool := if x.kind = 1 then ask1 c x else if x.kind = 2 then ask2 c x else if x.kind = 3 then ask3 c x else if x.kind = 4 then ask4 c x else false
theorem ask_1 {c : Cfg} {x : K} (h : x.kind = 1) : askK c x = ask1 c x := if_pos h
theorem ask_2 {c : Cfg} {x : K} (h : x.kind = 2) : askK c x = ask2 c x := by unfold askK; rw [if_neg (by omega), if_pos h]
theorem ask_3 {c : Cfg} {x : K} (h : x.kind = 3) : askK c x = ask3 c x := by unfold askK; rw [if_neg (by omega), if_neg (by omega), if_pos h]
theorem ask_4 {c : Cfg} {x : K} (h : x.kind = 4) : askK c x = ask4 c x := by unfold askK; rw [if_neg (by omega), if_neg (by omega), if_neg (by omega), if_pos h]
theorem ask_0 {c : Cfg} {x : K} (h1 : x.kind ≠ 1) (h2 : x.kind ≠ 2) (h3 : x.kind ≠ 3) (h4 : x.kind ≠ 4) : askK c x = false := by unfold askK; rw [if_neg h1, if_neg h2, if_neg h3, if_neg h4]
structure Duo (w W : World) (g p : Nat) (c : Cfg) (x : K) : Prop where
 bel : Below w.heap.size w W
 cat : CAt W g c
 at_ : KAt W p x
theorem Duo.new (w : World) (c : Cfg) (x : K) : Duo w ((w.alloc (.cells c.cells 24)).alloc (.cells x.cells 46)) w.heap.size (w.heap.size + 1) c x := by
 have hs : (w.alloc (.cells c.cells 24)).heap.size = w.heap.size + 1 := by simp
 have h := KAt.new (w.alloc (.cells c.cells 24)) x
 rw [hs] at h
 exact ⟨(below_new w _).alloc (by rw [hs]; omega) _, (CAt.new w c).step (below_new _ _), h⟩
theorem Duo.step {w W W' : World} {g p : Nat} {c : Cfg} {x : K} (h : Duo w W g p c x) (hb : Below W.heap.size W W') : Duo w W' g p c x := ⟨h.bel.trans (hb.mono h.bel.size), h.cat.step hb, h.at_.step hb⟩
def Yes (w : World) (b : Bool) (e : Ending) (w' : World) : Prop := e = .returned (.bool b) ∧ Below w.heap.size w w'
set_option maxRecDepth 100000 in
set_option maxHeartbeats 2000000 in
theorem ask1_any (c : Cfg) (x : K) (w : World) (hk : x.kind = 1) : Calls Tryz.prog 83 #[c.V, x.V] w (Yes w (ask1 c x)) := by
 have HT := Lib.hid (Duo.new w c x)
 have d1 : decide (x.kind = 1) = true := (by simpa using hk); have n1 : (x.kind != 1) = false := (by simpa using hk); have q1 : (x.kind == 1) = true := (by simpa using hk)
 have h2 : x.kind ≠ 2 := by omega
 have d2 : decide (x.kind = 2) = false := (by simpa using h2); have n2 : (x.kind != 2) = true := (by simpa using h2); have q2 : (x.kind == 2) = false := (by simpa using h2)
 have h3 : x.kind ≠ 3 := by omega
 have d3 : decide (x.kind = 3) = false := (by simpa using h3); have n3 : (x.kind != 3) = true := (by simpa using h3); have q3 : (x.kind == 3) = false := (by simpa using h3)
 have h4 : x.kind ≠ 4 := by omega
 have d4 : decide (x.kind = 4) = false := (by simpa using h4); have n4 : (x.kind != 4) = true := (by simpa using h4); have q4 : (x.kind == 4) = false := (by simpa using h4)
 clear hk
 have C0 := Lib.hid (fun W => floor_any c x.frm W)
 cases hb0 : x.beq x.hall
 ·have HB := Lib.hid hb0
  have HR : Hid (ask1 c x = false) := Lib.hid (by simp [ask1, hb0])
  go_enter Tryz.func83, Tryz.ntmps83
  go_upto_region 1 with fail
  obtain ⟨W, hW⟩ : ∃ W, (w.alloc (.cells c.cells 24)).alloc (.cells x.cells 46) = W := ⟨_, rfl⟩
  rw [hW] at HT ⊢; clear hW
  generalize w.heap.size + 1 = p at HT ⊢
  generalize w.heap.size = g at HT ⊢
  have k1 := HT.out.at_.get1; have k2 := HT.out.at_.get2; have k3 := HT.out.at_.get3; have k4 := HT.out.at_.get4
  have HA := Lib.hid HT.out.at_; have HC := Lib.hid HT.out.cat
  go_wp2_with (first | ((with_reducible apply wpList_load_kat (h := HA.out)); exact rfl; exact rfl; exact rfl) | ((with_reducible apply wpList_load_cat (h := HC.out)); exact rfl; exact rfl; exact rfl) | ((with_reducible apply wpList_eql_kat (c := x) (d := x.hall) (hb := HB.out)); exact rfl; exact rfl; exact rfl; exact rfl))
  go_ret
  exact ⟨ret_bool HR.out.symm, HT.out.bel⟩
 ·have HB := Lib.hid hb0
  cases g0 : isB c 0 x.frm
  ·rw [g0] at C0
   have HR : Hid (ask1 c x = false) := Lib.hid (by simp [ask1, hb0, g0])
   go_enter Tryz.func83, Tryz.ntmps83
   go_upto_region 1 with fail
   obtain ⟨W, hW⟩ : ∃ W, (w.alloc (.cells c.cells 24)).alloc (.cells x.cells 46) = W := ⟨_, rfl⟩
   rw [hW] at HT ⊢; clear hW
   generalize w.heap.size + 1 = p at HT ⊢
   generalize w.heap.size = g at HT ⊢
   have k1 := HT.out.at_.get1; have k2 := HT.out.at_.get2; have k3 := HT.out.at_.get3; have k4 := HT.out.at_.get4
   have HA := Lib.hid HT.out.at_; have HC := Lib.hid HT.out.cat
   go_wp2_with (first | ((with_reducible apply wpList_load_kat (h := HA.out)); exact rfl; exact rfl; exact rfl) | ((with_reducible apply wpList_load_cat (h := HC.out)); exact rfl; exact rfl; exact rfl) | ((with_reducible apply wpList_eql_kat (c := x) (d := x.hall) (hb := HB.out)); exact rfl; exact rfl; exact rfl; exact rfl))
   refine (C0.out _).mono ?_
   rintro e w1 ⟨rfl, hb⟩
   have HT := Lib.hid (HT.out.step hb); clear hb k1 k2 k3 k4 HA HC
   have k1 := HT.out.at_.get1; have k2 := HT.out.at_.get2; have k3 := HT.out.at_.get3; have k4 := HT.out.at_.get4
   have c0 := HT.out.cat.get (k := 0) (by omega)
   have HA := Lib.hid HT.out.at_; have HC := Lib.hid HT.out.cat
   go_wp2_with (first | ((with_reducible apply wpList_load_kat (h := HA.out)); exact rfl; exact rfl; exact rfl) | ((with_reducible apply wpList_load_cat (h := HC.out)); exact rfl; exact rfl; exact rfl) | ((with_reducible apply wpList_eql_kat (c := x) (d := x.hall) (hb := HB.out)); exact rfl; exact rfl; exact rfl; exact rfl))
   go_ret
   exact ⟨ret_bool HR.out.symm, HT.out.bel⟩
  ·rw [g0] at C0
   by_cases hl : x.frm < c.get 0
   ·have d9 : decide (x.frm < c.get 0) = true := (by simpa using hl)
    have HR : Hid (ask1 c x = true) := Lib.hid (by simp [ask1, hb0, g0, hl])
    go_enter Tryz.func83, Tryz.ntmps83
    go_upto_region 1 with fail
    obtain ⟨W, hW⟩ : ∃ W, (w.alloc (.cells c.cells 24)).alloc (.cells x.cells 46) = W := ⟨_, rfl⟩
    rw [hW] at HT ⊢; clear hW
    generalize w.heap.size + 1 = p at HT ⊢
    generalize w.heap.size = g at HT ⊢
    have k1 := HT.out.at_.get1; have k2 := HT.out.at_.get2; have k3 := HT.out.at_.get3; have k4 := HT.out.at_.get4
    have HA := Lib.hid HT.out.at_; have HC := Lib.hid HT.out.cat
    go_wp2_with (first | ((with_reducible apply wpList_load_kat (h := HA.out)); exact rfl; exact rfl; exact rfl) | ((with_reducible apply wpList_load_cat (h := HC.out)); exact rfl; exact rfl; exact rfl) | ((with_reducible apply wpList_eql_kat (c := x) (d := x.hall) (hb := HB.out)); exact rfl; exact rfl; exact rfl; exact rfl))
    refine (C0.out _).mono ?_
    rintro e w1 ⟨rfl, hb⟩
    have HT := Lib.hid (HT.out.step hb); clear hb k1 k2 k3 k4 HA HC
    have k1 := HT.out.at_.get1; have k2 := HT.out.at_.get2; have k3 := HT.out.at_.get3; have k4 := HT.out.at_.get4
    have c0 := HT.out.cat.get (k := 0) (by omega)
    have HA := Lib.hid HT.out.at_; have HC := Lib.hid HT.out.cat
    go_wp2_with (first | ((with_reducible apply wpList_load_kat (h := HA.out)); exact rfl; exact rfl; exact rfl) | ((with_reducible apply wpList_load_cat (h := HC.out)); exact rfl; exact rfl; exact rfl) | ((with_reducible apply wpList_eql_kat (c := x) (d := x.hall) (hb := HB.out)); exact rfl; exact rfl; exact rfl; exact rfl))
    go_ret
    exact ⟨ret_bool HR.out.symm, HT.out.bel⟩
   ·have d9 : decide (x.frm < c.get 0) = false := (by simpa using hl)
    have HR : Hid (ask1 c x = false) := Lib.hid (by simp [ask1, hb0, g0, hl])
    go_enter Tryz.func83, Tryz.ntmps83
    go_upto_region 1 with fail
    obtain ⟨W, hW⟩ : ∃ W, (w.alloc (.cells c.cells 24)).alloc (.cells x.cells 46) = W := ⟨_, rfl⟩
    rw [hW] at HT ⊢; clear hW
    generalize w.heap.size + 1 = p at HT ⊢
    generalize w.heap.size = g at HT ⊢
    have k1 := HT.out.at_.get1; have k2 := HT.out.at_.get2; have k3 := HT.out.at_.get3; have k4 := HT.out.at_.get4
    have HA := Lib.hid HT.out.at_; have HC := Lib.hid HT.out.cat
    go_wp2_with (first | ((with_reducible apply wpList_load_kat (h := HA.out)); exact rfl; exact rfl; exact rfl) | ((with_reducible apply wpList_load_cat (h := HC.out)); exact rfl; exact rfl; exact rfl) | ((with_reducible apply wpList_eql_kat (c := x) (d := x.hall) (hb := HB.out)); exact rfl; exact rfl; exact rfl; exact rfl))
    refine (C0.out _).mono ?_
    rintro e w1 ⟨rfl, hb⟩
    have HT := Lib.hid (HT.out.step hb); clear hb k1 k2 k3 k4 HA HC
    have k1 := HT.out.at_.get1; have k2 := HT.out.at_.get2; have k3 := HT.out.at_.get3; have k4 := HT.out.at_.get4
    have c0 := HT.out.cat.get (k := 0) (by omega)
    have HA := Lib.hid HT.out.at_; have HC := Lib.hid HT.out.cat
    go_wp2_with (first | ((with_reducible apply wpList_load_kat (h := HA.out)); exact rfl; exact rfl; exact rfl) | ((with_reducible apply wpList_load_cat (h := HC.out)); exact rfl; exact rfl; exact rfl) | ((with_reducible apply wpList_eql_kat (c := x) (d := x.hall) (hb := HB.out)); exact rfl; exact rfl; exact rfl; exact rfl))
    go_ret
    exact ⟨ret_bool HR.out.symm, HT.out.bel⟩
set_option maxRecDepth 100000 in
set_option maxHeartbeats 2000000 in
theorem ask2_any (c : Cfg) (x : K) (w : World) (hk : x.kind = 2) : Calls Tryz.prog 83 #[c.V, x.V] w (Yes w (ask2 c x)) := by
 have HT := Lib.hid (Duo.new w c x)
 have h1 : x.kind ≠ 1 := by omega
 have d1 : decide (x.kind = 1) = false := (by simpa using h1); have n1 : (x.kind != 1) = true := (by simpa using h1); have q1 : (x.kind == 1) = false := (by simpa using h1)
 have d2 : decide (x.kind = 2) = true := (by simpa using hk); have n2 : (x.kind != 2) = false := (by simpa using hk); have q2 : (x.kind == 2) = true := (by simpa using hk)
 have h3 : x.kind ≠ 3 := by omega
 have d3 : decide (x.kind = 3) = false := (by simpa using h3); have n3 : (x.kind != 3) = true := (by simpa using h3); have q3 : (x.kind == 3) = false := (by simpa using h3)
 have h4 : x.kind ≠ 4 := by omega
 have d4 : decide (x.kind = 4) = false := (by simpa using h4); have n4 : (x.kind != 4) = true := (by simpa using h4); have q4 : (x.kind == 4) = false := (by simpa using h4)
 clear hk
 have C0 := Lib.hid (fun W => floor_any c x.frm W)
 cases hb0 : x.beq x.hall
 ·have HB := Lib.hid hb0
  have HR : Hid (ask2 c x = false) := Lib.hid (by simp [ask2, hb0])
  go_enter Tryz.func83, Tryz.ntmps83
  go_upto_region 1 with fail
  obtain ⟨W, hW⟩ : ∃ W, (w.alloc (.cells c.cells 24)).alloc (.cells x.cells 46) = W := ⟨_, rfl⟩
  rw [hW] at HT ⊢; clear hW
  generalize w.heap.size + 1 = p at HT ⊢
  generalize w.heap.size = g at HT ⊢
  have k1 := HT.out.at_.get1; have k2 := HT.out.at_.get2; have k3 := HT.out.at_.get3; have k4 := HT.out.at_.get4
  have HA := Lib.hid HT.out.at_; have HC := Lib.hid HT.out.cat
  go_wp2_with (first | ((with_reducible apply wpList_load_kat (h := HA.out)); exact rfl; exact rfl; exact rfl) | ((with_reducible apply wpList_load_cat (h := HC.out)); exact rfl; exact rfl; exact rfl) | ((with_reducible apply wpList_eql_kat (c := x) (d := x.hall) (hb := HB.out)); exact rfl; exact rfl; exact rfl; exact rfl))
  go_ret
  exact ⟨ret_bool HR.out.symm, HT.out.bel⟩
 ·have HB := Lib.hid hb0
  cases g0 : isB c 0 x.frm
  ·rw [g0] at C0
   have HR : Hid (ask2 c x = false) := Lib.hid (by simp [ask2, hb0, g0])
   go_enter Tryz.func83, Tryz.ntmps83
   go_upto_region 1 with fail
   obtain ⟨W, hW⟩ : ∃ W, (w.alloc (.cells c.cells 24)).alloc (.cells x.cells 46) = W := ⟨_, rfl⟩
   rw [hW] at HT ⊢; clear hW
   generalize w.heap.size + 1 = p at HT ⊢
   generalize w.heap.size = g at HT ⊢
   have k1 := HT.out.at_.get1; have k2 := HT.out.at_.get2; have k3 := HT.out.at_.get3; have k4 := HT.out.at_.get4
   have HA := Lib.hid HT.out.at_; have HC := Lib.hid HT.out.cat
   go_wp2_with (first | ((with_reducible apply wpList_load_kat (h := HA.out)); exact rfl; exact rfl; exact rfl) | ((with_reducible apply wpList_load_cat (h := HC.out)); exact rfl; exact rfl; exact rfl) | ((with_reducible apply wpList_eql_kat (c := x) (d := x.hall) (hb := HB.out)); exact rfl; exact rfl; exact rfl; exact rfl))
   refine (C0.out _).mono ?_
   rintro e w1 ⟨rfl, hb⟩
   have HT := Lib.hid (HT.out.step hb); clear hb k1 k2 k3 k4 HA HC
   have k1 := HT.out.at_.get1; have k2 := HT.out.at_.get2; have k3 := HT.out.at_.get3; have k4 := HT.out.at_.get4
   have c0 := HT.out.cat.get (k := 0) (by omega)
   have HA := Lib.hid HT.out.at_; have HC := Lib.hid HT.out.cat
   go_wp2_with (first | ((with_reducible apply wpList_load_kat (h := HA.out)); exact rfl; exact rfl; exact rfl) | ((with_reducible apply wpList_load_cat (h := HC.out)); exact rfl; exact rfl; exact rfl) | ((with_reducible apply wpList_eql_kat (c := x) (d := x.hall) (hb := HB.out)); exact rfl; exact rfl; exact rfl; exact rfl))
   go_ret
   exact ⟨ret_bool HR.out.symm, HT.out.bel⟩
  ·rw [g0] at C0
   by_cases hl : 1 < x.frm
   ·have d9 : decide (1 < x.frm) = true := (by simpa using hl)
    have HR : Hid (ask2 c x = true) := Lib.hid (by simp [ask2, hb0, g0, hl])
    go_enter Tryz.func83, Tryz.ntmps83
    go_upto_region 1 with fail
    obtain ⟨W, hW⟩ : ∃ W, (w.alloc (.cells c.cells 24)).alloc (.cells x.cells 46) = W := ⟨_, rfl⟩
    rw [hW] at HT ⊢; clear hW
    generalize w.heap.size + 1 = p at HT ⊢
    generalize w.heap.size = g at HT ⊢
    have k1 := HT.out.at_.get1; have k2 := HT.out.at_.get2; have k3 := HT.out.at_.get3; have k4 := HT.out.at_.get4
    have HA := Lib.hid HT.out.at_; have HC := Lib.hid HT.out.cat
    go_wp2_with (first | ((with_reducible apply wpList_load_kat (h := HA.out)); exact rfl; exact rfl; exact rfl) | ((with_reducible apply wpList_load_cat (h := HC.out)); exact rfl; exact rfl; exact rfl) | ((with_reducible apply wpList_eql_kat (c := x) (d := x.hall) (hb := HB.out)); exact rfl; exact rfl; exact rfl; exact rfl))
    refine (C0.out _).mono ?_
    rintro e w1 ⟨rfl, hb⟩
    have HT := Lib.hid (HT.out.step hb); clear hb k1 k2 k3 k4 HA HC
    have k1 := HT.out.at_.get1; have k2 := HT.out.at_.get2; have k3 := HT.out.at_.get3; have k4 := HT.out.at_.get4
    have c0 := HT.out.cat.get (k := 0) (by omega)
    have HA := Lib.hid HT.out.at_; have HC := Lib.hid HT.out.cat
    go_wp2_with (first | ((with_reducible apply wpList_load_kat (h := HA.out)); exact rfl; exact rfl; exact rfl) | ((with_reducible apply wpList_load_cat (h := HC.out)); exact rfl; exact rfl; exact rfl) | ((with_reducible apply wpList_eql_kat (c := x) (d := x.hall) (hb := HB.out)); exact rfl; exact rfl; exact rfl; exact rfl))
    go_ret
    exact ⟨ret_bool HR.out.symm, HT.out.bel⟩
   ·have d9 : decide (1 < x.frm) = false := (by simpa using hl)
    have HR : Hid (ask2 c x = false) := Lib.hid (by simp [ask2, hb0, g0, hl])
    go_enter Tryz.func83, Tryz.ntmps83
    go_upto_region 1 with fail
    obtain ⟨W, hW⟩ : ∃ W, (w.alloc (.cells c.cells 24)).alloc (.cells x.cells 46) = W := ⟨_, rfl⟩
    rw [hW] at HT ⊢; clear hW
    generalize w.heap.size + 1 = p at HT ⊢
    generalize w.heap.size = g at HT ⊢
    have k1 := HT.out.at_.get1; have k2 := HT.out.at_.get2; have k3 := HT.out.at_.get3; have k4 := HT.out.at_.get4
    have HA := Lib.hid HT.out.at_; have HC := Lib.hid HT.out.cat
    go_wp2_with (first | ((with_reducible apply wpList_load_kat (h := HA.out)); exact rfl; exact rfl; exact rfl) | ((with_reducible apply wpList_load_cat (h := HC.out)); exact rfl; exact rfl; exact rfl) | ((with_reducible apply wpList_eql_kat (c := x) (d := x.hall) (hb := HB.out)); exact rfl; exact rfl; exact rfl; exact rfl))
    refine (C0.out _).mono ?_
    rintro e w1 ⟨rfl, hb⟩
    have HT := Lib.hid (HT.out.step hb); clear hb k1 k2 k3 k4 HA HC
    have k1 := HT.out.at_.get1; have k2 := HT.out.at_.get2; have k3 := HT.out.at_.get3; have k4 := HT.out.at_.get4
    have c0 := HT.out.cat.get (k := 0) (by omega)
    have HA := Lib.hid HT.out.at_; have HC := Lib.hid HT.out.cat
    go_wp2_with (first | ((with_reducible apply wpList_load_kat (h := HA.out)); exact rfl; exact rfl; exact rfl) | ((with_reducible apply wpList_load_cat (h := HC.out)); exact rfl; exact rfl; exact rfl) | ((with_reducible apply wpList_eql_kat (c := x) (d := x.hall) (hb := HB.out)); exact rfl; exact rfl; exact rfl; exact rfl))
    go_ret
    exact ⟨ret_bool HR.out.symm, HT.out.bel⟩
set_option maxRecDepth 100000 in
set_option maxHeartbeats 2000000 in
theorem ask0_any (c : Cfg) (x : K) (w : World) (h1 : x.kind ≠ 1) (h2 : x.kind ≠ 2) (h3 : x.kind ≠ 3) (h4 : x.kind ≠ 4) : Calls Tryz.prog 83 #[c.V, x.V] w (Yes w false) := by
 have HT := Lib.hid (Duo.new w c x)
 have d1 : decide (x.kind = 1) = false := (by simpa using h1); have n1 : (x.kind != 1) = true := (by simpa using h1); have q1 : (x.kind == 1) = false := (by simpa using h1)
 have d2 : decide (x.kind = 2) = false := (by simpa using h2); have n2 : (x.kind != 2) = true := (by simpa using h2); have q2 : (x.kind == 2) = false := (by simpa using h2)
 have d3 : decide (x.kind = 3) = false := (by simpa using h3); have n3 : (x.kind != 3) = true := (by simpa using h3); have q3 : (x.kind == 3) = false := (by simpa using h3)
 have d4 : decide (x.kind = 4) = false := (by simpa using h4); have n4 : (x.kind != 4) = true := (by simpa using h4); have q4 : (x.kind == 4) = false := (by simpa using h4)
 go_enter Tryz.func83, Tryz.ntmps83
 go_upto_region 1 with fail
 obtain ⟨W, hW⟩ : ∃ W, (w.alloc (.cells c.cells 24)).alloc (.cells x.cells 46) = W := ⟨_, rfl⟩
 rw [hW] at HT ⊢; clear hW
 generalize w.heap.size + 1 = p at HT ⊢
 generalize w.heap.size = g at HT ⊢
 have k1 := HT.out.at_.get1; have k2 := HT.out.at_.get2; have k3 := HT.out.at_.get3; have k4 := HT.out.at_.get4
 go_wp2_with fail
 go_ret
 exact ⟨rfl, HT.out.bel⟩
end Go.Proofs.YtplapoenhohliaaGreat
namespace Go.Proofs.YtplapoenhohliaaGreat
open Go.RowKit Go.Lib
set_option linter.unusedVariables false
set_option linter.unusedSimpArgs false
set_option maxRecDepth 100000 in
set_option maxHeartbeats 2000000 in
theorem ask3_any (c : Cfg) (x : K) (w : World) (hk : x.kind = 3) : Calls Tryz.prog 83 #[c.V, x.V] w (Yes w (ask3 c x)) := by
 have HT := Lib.hid (Duo.new w c x)
 have h1 : x.kind ≠ 1 := by omega
 have d1 : decide (x.kind = 1) = false := (by simpa using h1); have n1 : (x.kind != 1) = true := (by simpa using h1); have q1 : (x.kind == 1) = false := (by simpa using h1)
 have h2 : x.kind ≠ 2 := by omega
 have d2 : decide (x.kind = 2) = false := (by simpa using h2); have n2 : (x.kind != 2) = true := (by simpa using h2); have q2 : (x.kind == 2) = false := (by simpa using h2)
 have d3 : decide (x.kind = 3) = true := (by simpa using hk); have n3 : (x.kind != 3) = false := (by simpa using hk); have q3 : (x.kind == 3) = true := (by simpa using hk)
 have h4 : x.kind ≠ 4 := by omega
 have d4 : decide (x.kind = 4) = false := (by simpa using h4); have n4 : (x.kind != 4) = true := (by simpa using h4); have q4 : (x.kind == 4) = false := (by simpa using h4)
 clear hk
 have C0 := Lib.hid (fun W => floor_any c x.dto W)
 have C1 := Lib.hid (fun W => car_any c x.car W)
 cases hb0 : x.beq x.ins
 ·have HB := Lib.hid hb0
  have HR : Hid (ask3 c x = false) := Lib.hid (by simp [ask3, hb0])
  go_enter Tryz.func83, Tryz.ntmps83
  go_upto_region 1 with fail
  obtain ⟨W, hW⟩ : ∃ W, (w.alloc (.cells c.cells 24)).alloc (.cells x.cells 46) = W := ⟨_, rfl⟩
  rw [hW] at HT ⊢; clear hW
  generalize w.heap.size + 1 = p at HT ⊢
  generalize w.heap.size = g at HT ⊢
  have k1 := HT.out.at_.get1; have k2 := HT.out.at_.get2; have k3 := HT.out.at_.get3; have k4 := HT.out.at_.get4
  have HA := Lib.hid HT.out.at_; have HC := Lib.hid HT.out.cat
  go_wp2_with (first | ((with_reducible apply wpList_load_kat (h := HA.out)); exact rfl; exact rfl; exact rfl) | ((with_reducible apply wpList_load_cat (h := HC.out)); exact rfl; exact rfl; exact rfl) | ((with_reducible apply wpList_eql_kat (c := x) (d := x.ins) (hb := HB.out)); exact rfl; exact rfl; exact rfl; exact rfl))
  go_ret
  exact ⟨ret_bool HR.out.symm, HT.out.bel⟩
 ·have HB := Lib.hid hb0
  cases g0 : isB c 0 x.dto
  ·rw [g0] at C0
   have HR : Hid (ask3 c x = false) := Lib.hid (by simp [ask3, hb0, g0])
   go_enter Tryz.func83, Tryz.ntmps83
   go_upto_region 1 with fail
   obtain ⟨W, hW⟩ : ∃ W, (w.alloc (.cells c.cells 24)).alloc (.cells x.cells 46) = W := ⟨_, rfl⟩
   rw [hW] at HT ⊢; clear hW
   generalize w.heap.size + 1 = p at HT ⊢
   generalize w.heap.size = g at HT ⊢
   have k1 := HT.out.at_.get1; have k2 := HT.out.at_.get2; have k3 := HT.out.at_.get3; have k4 := HT.out.at_.get4
   have HA := Lib.hid HT.out.at_; have HC := Lib.hid HT.out.cat
   go_wp2_with (first | ((with_reducible apply wpList_load_kat (h := HA.out)); exact rfl; exact rfl; exact rfl) | ((with_reducible apply wpList_load_cat (h := HC.out)); exact rfl; exact rfl; exact rfl) | ((with_reducible apply wpList_eql_kat (c := x) (d := x.ins) (hb := HB.out)); exact rfl; exact rfl; exact rfl; exact rfl))
   refine (C0.out _).mono ?_
   rintro e w1 ⟨rfl, hb⟩
   have HT := Lib.hid (HT.out.step hb); clear hb k1 k2 k3 k4 HA HC
   have k1 := HT.out.at_.get1; have k2 := HT.out.at_.get2; have k3 := HT.out.at_.get3; have k4 := HT.out.at_.get4
   have c0 := HT.out.cat.get (k := 0) (by omega)
   have HA := Lib.hid HT.out.at_; have HC := Lib.hid HT.out.cat
   go_wp2_with (first | ((with_reducible apply wpList_load_kat (h := HA.out)); exact rfl; exact rfl; exact rfl) | ((with_reducible apply wpList_load_cat (h := HC.out)); exact rfl; exact rfl; exact rfl) | ((with_reducible apply wpList_eql_kat (c := x) (d := x.ins) (hb := HB.out)); exact rfl; exact rfl; exact rfl; exact rfl))
   go_ret
   exact ⟨ret_bool HR.out.symm, HT.out.bel⟩
  ·rw [g0] at C0
   cases g1 : isB c 1 x.car
   ·rw [g1] at C1
    have HR : Hid (ask3 c x = false) := Lib.hid (by simp [ask3, hb0, g0, g1])
    go_enter Tryz.func83, Tryz.ntmps83
    go_upto_region 1 with fail
    obtain ⟨W, hW⟩ : ∃ W, (w.alloc (.cells c.cells 24)).alloc (.cells x.cells 46) = W := ⟨_, rfl⟩
    rw [hW] at HT ⊢; clear hW
    generalize w.heap.size + 1 = p at HT ⊢
    generalize w.heap.size = g at HT ⊢
    have k1 := HT.out.at_.get1; have k2 := HT.out.at_.get2; have k3 := HT.out.at_.get3; have k4 := HT.out.at_.get4
    have HA := Lib.hid HT.out.at_; have HC := Lib.hid HT.out.cat
    go_wp2_with (first | ((with_reducible apply wpList_load_kat (h := HA.out)); exact rfl; exact rfl; exact rfl) | ((with_reducible apply wpList_load_cat (h := HC.out)); exact rfl; exact rfl; exact rfl) | ((with_reducible apply wpList_eql_kat (c := x) (d := x.ins) (hb := HB.out)); exact rfl; exact rfl; exact rfl; exact rfl))
    refine (C0.out _).mono ?_
    rintro e w1 ⟨rfl, hb⟩
    have HT := Lib.hid (HT.out.step hb); clear hb k1 k2 k3 k4 HA HC
    have k1 := HT.out.at_.get1; have k2 := HT.out.at_.get2; have k3 := HT.out.at_.get3; have k4 := HT.out.at_.get4
    have c0 := HT.out.cat.get (k := 0) (by omega)
    have HA := Lib.hid HT.out.at_; have HC := Lib.hid HT.out.cat
    go_wp2_with (first | ((with_reducible apply wpList_load_kat (h := HA.out)); exact rfl; exact rfl; exact rfl) | ((with_reducible apply wpList_load_cat (h := HC.out)); exact rfl; exact rfl; exact rfl) | ((with_reducible apply wpList_eql_kat (c := x) (d := x.ins) (hb := HB.out)); exact rfl; exact rfl; exact rfl; exact rfl))
    refine (C1.out _).mono ?_
    rintro e w2 ⟨rfl, hb⟩
    have HT := Lib.hid (HT.out.step hb); clear hb k1 k2 k3 k4 HA HC
    have k1 := HT.out.at_.get1; have k2 := HT.out.at_.get2; have k3 := HT.out.at_.get3; have k4 := HT.out.at_.get4
    have c0 := HT.out.cat.get (k := 0) (by omega)
    have HA := Lib.hid HT.out.at_; have HC := Lib.hid HT.out.cat
    go_wp2_with (first | ((with_reducible apply wpList_load_kat (h := HA.out)); exact rfl; exact rfl; exact rfl) | ((with_reducible apply wpList_load_cat (h := HC.out)); exact rfl; exact rfl; exact rfl) | ((with_reducible apply wpList_eql_kat (c := x) (d := x.ins) (hb := HB.out)); exact rfl; exact rfl; exact rfl; exact rfl))
    go_ret
    exact ⟨ret_bool HR.out.symm, HT.out.bel⟩
   ·rw [g1] at C1
    have HR : Hid (ask3 c x = true) := Lib.hid (by simp [ask3, hb0, g0, g1])
    go_enter Tryz.func83, Tryz.ntmps83
    go_upto_region 1 with fail
    obtain ⟨W, hW⟩ : ∃ W, (w.alloc (.cells c.cells 24)).alloc (.cells x.cells 46) = W := ⟨_, rfl⟩
    rw [hW] at HT ⊢; clear hW
    generalize w.heap.size + 1 = p at HT ⊢
    generalize w.heap.size = g at HT ⊢
    have k1 := HT.out.at_.get1; have k2 := HT.out.at_.get2; have k3 := HT.out.at_.get3; have k4 := HT.out.at_.get4
    have HA := Lib.hid HT.out.at_; have HC := Lib.hid HT.out.cat
    go_wp2_with (first | ((with_reducible apply wpList_load_kat (h := HA.out)); exact rfl; exact rfl; exact rfl) | ((with_reducible apply wpList_load_cat (h := HC.out)); exact rfl; exact rfl; exact rfl) | ((with_reducible apply wpList_eql_kat (c := x) (d := x.ins) (hb := HB.out)); exact rfl; exact rfl; exact rfl; exact rfl))
    refine (C0.out _).mono ?_
    rintro e w1 ⟨rfl, hb⟩
    have HT := Lib.hid (HT.out.step hb); clear hb k1 k2 k3 k4 HA HC
    have k1 := HT.out.at_.get1; have k2 := HT.out.at_.get2; have k3 := HT.out.at_.get3; have k4 := HT.out.at_.get4
    have c0 := HT.out.cat.get (k := 0) (by omega)
    have HA := Lib.hid HT.out.at_; have HC := Lib.hid HT.out.cat
    go_wp2_with (first | ((with_reducible apply wpList_load_kat (h := HA.out)); exact rfl; exact rfl; exact rfl) | ((with_reducible apply wpList_load_cat (h := HC.out)); exact rfl; exact rfl; exact rfl) | ((with_reducible apply wpList_eql_kat (c := x) (d := x.ins) (hb := HB.out)); exact rfl; exact rfl; exact rfl; exact rfl))
    refine (C1.out _).mono ?_
    rintro e w2 ⟨rfl, hb⟩
    have HT := Lib.hid (HT.out.step hb); clear hb k1 k2 k3 k4 HA HC
    have k1 := HT.out.at_.get1; have k2 := HT.out.at_.get2; have k3 := HT.out.at_.get3; have k4 := HT.out.at_.get4
    have c0 := HT.out.cat.get (k := 0) (by omega)
    have HA := Lib.hid HT.out.at_; have HC := Lib.hid HT.out.cat
    go_wp2_with (first | ((with_reducible apply wpList_load_kat (h := HA.out)); exact rfl; exact rfl; exact rfl) | ((with_reducible apply wpList_load_cat (h := HC.out)); exact rfl; exact rfl; exact rfl) | ((with_reducible apply wpList_eql_kat (c := x) (d := x.ins) (hb := HB.out)); exact rfl; exact rfl; exact rfl; exact rfl))
    go_ret
    exact ⟨ret_bool HR.out.symm, HT.out.bel⟩
set_option maxRecDepth 100000 in
set_option maxHeartbeats 2000000 in
theorem ask4_any (c : Cfg) (x : K) (w : World) (hk : x.kind = 4) : Calls Tryz.prog 83 #[c.V, x.V] w (Yes w (ask4 c x)) := by
 have HT := Lib.hid (Duo.new w c x)
 have h1 : x.kind ≠ 1 := by omega
 have d1 : decide (x.kind = 1) = false := (by simpa using h1); have n1 : (x.kind != 1) = true := (by simpa using h1); have q1 : (x.kind == 1) = false := (by simpa using h1)
 have h2 : x.kind ≠ 2 := by omega
 have d2 : decide (x.kind = 2) = false := (by simpa using h2); have n2 : (x.kind != 2) = true := (by simpa using h2); have q2 : (x.kind == 2) = false := (by simpa using h2)
 have h3 : x.kind ≠ 3 := by omega
 have d3 : decide (x.kind = 3) = false := (by simpa using h3); have n3 : (x.kind != 3) = true := (by simpa using h3); have q3 : (x.kind == 3) = false := (by simpa using h3)
 have d4 : decide (x.kind = 4) = true := (by simpa using hk); have n4 : (x.kind != 4) = false := (by simpa using hk); have q4 : (x.kind == 4) = true := (by simpa using hk)
 clear hk
 have C0 := Lib.hid (fun W => floor_any c x.frm W)
 have C1 := Lib.hid (fun W => floor_any c x.dto W)
 cases hb0 : x.beq x.trip
 ·have HB := Lib.hid hb0
  have HR : Hid (ask4 c x = false) := Lib.hid (by simp [ask4, hb0])
  go_enter Tryz.func83, Tryz.ntmps83
  go_upto_region 1 with fail
  obtain ⟨W, hW⟩ : ∃ W, (w.alloc (.cells c.cells 24)).alloc (.cells x.cells 46) = W := ⟨_, rfl⟩
  rw [hW] at HT ⊢; clear hW
  generalize w.heap.size + 1 = p at HT ⊢
  generalize w.heap.size = g at HT ⊢
  have k1 := HT.out.at_.get1; have k2 := HT.out.at_.get2; have k3 := HT.out.at_.get3; have k4 := HT.out.at_.get4
  have HA := Lib.hid HT.out.at_; have HC := Lib.hid HT.out.cat
  go_wp2_with (first | ((with_reducible apply wpList_load_kat (h := HA.out)); exact rfl; exact rfl; exact rfl) | ((with_reducible apply wpList_load_cat (h := HC.out)); exact rfl; exact rfl; exact rfl) | ((with_reducible apply wpList_eql_kat (c := x) (d := x.trip) (hb := HB.out)); exact rfl; exact rfl; exact rfl; exact rfl))
  go_ret
  exact ⟨ret_bool HR.out.symm, HT.out.bel⟩
 ·have HB := Lib.hid hb0
  cases g0 : isB c 0 x.frm
  ·rw [g0] at C0
   have HR : Hid (ask4 c x = false) := Lib.hid (by simp [ask4, hb0, g0])
   go_enter Tryz.func83, Tryz.ntmps83
   go_upto_region 1 with fail
   obtain ⟨W, hW⟩ : ∃ W, (w.alloc (.cells c.cells 24)).alloc (.cells x.cells 46) = W := ⟨_, rfl⟩
   rw [hW] at HT ⊢; clear hW
   generalize w.heap.size + 1 = p at HT ⊢
   generalize w.heap.size = g at HT ⊢
   have k1 := HT.out.at_.get1; have k2 := HT.out.at_.get2; have k3 := HT.out.at_.get3; have k4 := HT.out.at_.get4
   have HA := Lib.hid HT.out.at_; have HC := Lib.hid HT.out.cat
   go_wp2_with (first | ((with_reducible apply wpList_load_kat (h := HA.out)); exact rfl; exact rfl; exact rfl) | ((with_reducible apply wpList_load_cat (h := HC.out)); exact rfl; exact rfl; exact rfl) | ((with_reducible apply wpList_eql_kat (c := x) (d := x.trip) (hb := HB.out)); exact rfl; exact rfl; exact rfl; exact rfl))
   refine (C0.out _).mono ?_
   rintro e w1 ⟨rfl, hb⟩
   have HT := Lib.hid (HT.out.step hb); clear hb k1 k2 k3 k4 HA HC
   have k1 := HT.out.at_.get1; have k2 := HT.out.at_.get2; have k3 := HT.out.at_.get3; have k4 := HT.out.at_.get4
   have c0 := HT.out.cat.get (k := 0) (by omega)
   have HA := Lib.hid HT.out.at_; have HC := Lib.hid HT.out.cat
   go_wp2_with (first | ((with_reducible apply wpList_load_kat (h := HA.out)); exact rfl; exact rfl; exact rfl) | ((with_reducible apply wpList_load_cat (h := HC.out)); exact rfl; exact rfl; exact rfl) | ((with_reducible apply wpList_eql_kat (c := x) (d := x.trip) (hb := HB.out)); exact rfl; exact rfl; exact rfl; exact rfl))
   go_ret
   exact ⟨ret_bool HR.out.symm, HT.out.bel⟩
  ·rw [g0] at C0
   cases g1 : isB c 0 x.dto
   ·rw [g1] at C1
    have HR : Hid (ask4 c x = false) := Lib.hid (by simp [ask4, hb0, g0, g1])
    go_enter Tryz.func83, Tryz.ntmps83
    go_upto_region 1 with fail
    obtain ⟨W, hW⟩ : ∃ W, (w.alloc (.cells c.cells 24)).alloc (.cells x.cells 46) = W := ⟨_, rfl⟩
    rw [hW] at HT ⊢; clear hW
    generalize w.heap.size + 1 = p at HT ⊢
    generalize w.heap.size = g at HT ⊢
    have k1 := HT.out.at_.get1; have k2 := HT.out.at_.get2; have k3 := HT.out.at_.get3; have k4 := HT.out.at_.get4
    have HA := Lib.hid HT.out.at_; have HC := Lib.hid HT.out.cat
    go_wp2_with (first | ((with_reducible apply wpList_load_kat (h := HA.out)); exact rfl; exact rfl; exact rfl) | ((with_reducible apply wpList_load_cat (h := HC.out)); exact rfl; exact rfl; exact rfl) | ((with_reducible apply wpList_eql_kat (c := x) (d := x.trip) (hb := HB.out)); exact rfl; exact rfl; exact rfl; exact rfl))
    refine (C0.out _).mono ?_
    rintro e w1 ⟨rfl, hb⟩
    have HT := Lib.hid (HT.out.step hb); clear hb k1 k2 k3 k4 HA HC
    have k1 := HT.out.at_.get1; have k2 := HT.out.at_.get2; have k3 := HT.out.at_.get3; have k4 := HT.out.at_.get4
    have c0 := HT.out.cat.get (k := 0) (by omega)
    have HA := Lib.hid HT.out.at_; have HC := Lib.hid HT.out.cat
    go_wp2_with (first | ((with_reducible apply wpList_load_kat (h := HA.out)); exact rfl; exact rfl; exact rfl) | ((with_reducible apply wpList_load_cat (h := HC.out)); exact rfl; exact rfl; exact rfl) | ((with_reducible apply wpList_eql_kat (c := x) (d := x.trip) (hb := HB.out)); exact rfl; exact rfl; exact rfl; exact rfl))
    refine (C1.out _).mono ?_
    rintro e w2 ⟨rfl, hb⟩
    have HT := Lib.hid (HT.out.step hb); clear hb k1 k2 k3 k4 HA HC
    have k1 := HT.out.at_.get1; have k2 := HT.out.at_.get2; have k3 := HT.out.at_.get3; have k4 := HT.out.at_.get4
    have c0 := HT.out.cat.get (k := 0) (by omega)
    have HA := Lib.hid HT.out.at_; have HC := Lib.hid HT.out.cat
    go_wp2_with (first | ((with_reducible apply wpList_load_kat (h := HA.out)); exact rfl; exact rfl; exact rfl) | ((with_reducible apply wpList_load_cat (h := HC.out)); exact rfl; exact rfl; exact rfl) | ((with_reducible apply wpList_eql_kat (c := x) (d := x.trip) (hb := HB.out)); exact rfl; exact rfl; exact rfl; exact rfl))
    go_ret
    exact ⟨ret_bool HR.out.symm, HT.out.bel⟩
   ·rw [g1] at C1
    by_cases hl : x.frm ≠ x.dto
    ·have d9 : decide (x.frm = x.dto) = false := (by simpa using hl); have n9 : (x.frm != x.dto) = true := (by simpa using hl); have q9 : (x.frm == x.dto) = false := (by simpa using hl)
     have HR : Hid (ask4 c x = true) := Lib.hid (by simp [ask4, hb0, g0, g1, hl])
     go_enter Tryz.func83, Tryz.ntmps83
     go_upto_region 1 with fail
     obtain ⟨W, hW⟩ : ∃ W, (w.alloc (.cells c.cells 24)).alloc (.cells x.cells 46) = W := ⟨_, rfl⟩
     rw [hW] at HT ⊢; clear hW
     generalize w.heap.size + 1 = p at HT ⊢
     generalize w.heap.size = g at HT ⊢
     have k1 := HT.out.at_.get1; have k2 := HT.out.at_.get2; have k3 := HT.out.at_.get3; have k4 := HT.out.at_.get4
     have HA := Lib.hid HT.out.at_; have HC := Lib.hid HT.out.cat
     go_wp2_with (first | ((with_reducible apply wpList_load_kat (h := HA.out)); exact rfl; exact rfl; exact rfl) | ((with_reducible apply wpList_load_cat (h := HC.out)); exact rfl; exact rfl; exact rfl) | ((with_reducible apply wpList_eql_kat (c := x) (d := x.trip) (hb := HB.out)); exact rfl; exact rfl; exact rfl; exact rfl))
     refine (C0.out _).mono ?_
     rintro e w1 ⟨rfl, hb⟩
     have HT := Lib.hid (HT.out.step hb); clear hb k1 k2 k3 k4 HA HC
     have k1 := HT.out.at_.get1; have k2 := HT.out.at_.get2; have k3 := HT.out.at_.get3; have k4 := HT.out.at_.get4
     have c0 := HT.out.cat.get (k := 0) (by omega)
     have HA := Lib.hid HT.out.at_; have HC := Lib.hid HT.out.cat
     go_wp2_with (first | ((with_reducible apply wpList_load_kat (h := HA.out)); exact rfl; exact rfl; exact rfl) | ((with_reducible apply wpList_load_cat (h := HC.out)); exact rfl; exact rfl; exact rfl) | ((with_reducible apply wpList_eql_kat (c := x) (d := x.trip) (hb := HB.out)); exact rfl; exact rfl; exact rfl; exact rfl))
     refine (C1.out _).mono ?_
     rintro e w2 ⟨rfl, hb⟩
     have HT := Lib.hid (HT.out.step hb); clear hb k1 k2 k3 k4 HA HC
     have k1 := HT.out.at_.get1; have k2 := HT.out.at_.get2; have k3 := HT.out.at_.get3; have k4 := HT.out.at_.get4
     have c0 := HT.out.cat.get (k := 0) (by omega)
     have HA := Lib.hid HT.out.at_; have HC := Lib.hid HT.out.cat
     go_wp2_with (first | ((with_reducible apply wpList_load_kat (h := HA.out)); exact rfl; exact rfl; exact rfl) | ((with_reducible apply wpList_load_cat (h := HC.out)); exact rfl; exact rfl; exact rfl) | ((with_reducible apply wpList_eql_kat (c := x) (d := x.trip) (hb := HB.out)); exact rfl; exact rfl; exact rfl; exact rfl))
     go_ret
     exact ⟨ret_bool HR.out.symm, HT.out.bel⟩
    ·have d9 : decide (x.frm = x.dto) = true := (by simpa using hl); have n9 : (x.frm != x.dto) = false := (by simpa using hl); have q9 : (x.frm == x.dto) = true := (by simpa using hl)
     have HR : Hid (ask4 c x = false) := Lib.hid (by simp [ask4, hb0, g0, g1, hl])
     go_enter Tryz.func83, Tryz.ntmps83
     go_upto_region 1 with fail
     obtain ⟨W, hW⟩ : ∃ W, (w.alloc (.cells c.cells 24)).alloc (.cells x.cells 46) = W := ⟨_, rfl⟩
     rw [hW] at HT ⊢; clear hW
     generalize w.heap.size + 1 = p at HT ⊢
     generalize w.heap.size = g at HT ⊢
     have k1 := HT.out.at_.get1; have k2 := HT.out.at_.get2; have k3 := HT.out.at_.get3; have k4 := HT.out.at_.get4
     have HA := Lib.hid HT.out.at_; have HC := Lib.hid HT.out.cat
     go_wp2_with (first | ((with_reducible apply wpList_load_kat (h := HA.out)); exact rfl; exact rfl; exact rfl) | ((with_reducible apply wpList_load_cat (h := HC.out)); exact rfl; exact rfl; exact rfl) | ((with_reducible apply wpList_eql_kat (c := x) (d := x.trip) (hb := HB.out)); exact rfl; exact rfl; exact rfl; exact rfl))
     refine (C0.out _).mono ?_
     rintro e w1 ⟨rfl, hb⟩
     have HT := Lib.hid (HT.out.step hb); clear hb k1 k2 k3 k4 HA HC
     have k1 := HT.out.at_.get1; have k2 := HT.out.at_.get2; have k3 := HT.out.at_.get3; have k4 := HT.out.at_.get4
     have c0 := HT.out.cat.get (k := 0) (by omega)
     have HA := Lib.hid HT.out.at_; have HC := Lib.hid HT.out.cat
     go_wp2_with (first | ((with_reducible apply wpList_load_kat (h := HA.out)); exact rfl; exact rfl; exact rfl) | ((with_reducible apply wpList_load_cat (h := HC.out)); exact rfl; exact rfl; exact rfl) | ((with_reducible apply wpList_eql_kat (c := x) (d := x.trip) (hb := HB.out)); exact rfl; exact rfl; exact rfl; exact rfl))
     refine (C1.out _).mono ?_
     rintro e w2 ⟨rfl, hb⟩
     have HT := Lib.hid (HT.out.step hb); clear hb k1 k2 k3 k4 HA HC
     have k1 := HT.out.at_.get1; have k2 := HT.out.at_.get2; have k3 := HT.out.at_.get3; have k4 := HT.out.at_.get4
     have c0 := HT.out.cat.get (k := 0) (by omega)
     have HA := Lib.hid HT.out.at_; have HC := Lib.hid HT.out.cat
     go_wp2_with (first | ((with_reducible apply wpList_load_kat (h := HA.out)); exact rfl; exact rfl; exact rfl) | ((with_reducible apply wpList_load_cat (h := HC.out)); exact rfl; exact rfl; exact rfl) | ((with_reducible apply wpList_eql_kat (c := x) (d := x.trip) (hb := HB.out)); exact rfl; exact rfl; exact rfl; exact rfl))
     go_ret
     exact ⟨ret_bool HR.out.symm, HT.out.bel⟩
theorem ask_any (c : Cfg) (x : K) (w : World) : Calls Tryz.prog 83 #[c.V, x.V] w (Yes w (askK c x)) := by
 by_cases h1 : x.kind = 1
 ·rw [ask_1 h1]; exact ask1_any c x w h1
 ·by_cases h2 : x.kind = 2
  ·rw [ask_2 h2]; exact ask2_any c x w h2
  ·by_cases h3 : x.kind = 3
   ·rw [ask_3 h3]; exact ask3_any c x w h3
   ·by_cases h4 : x.kind = 4
    ·rw [ask_4 h4]; exact ask4_any c x w h4
    ·rw [ask_0 h1 h2 h3 h4]; exact ask0_any c x w h1 h2 h3 h4
end Go.Proofs.YtplapoenhohliaaGreat
