/- Who is left waits as before: the ways of the statement CallComesBack, one by one. -/
import Derived.Test.YtdchokeihnoepaaAwake
namespace Go.Proofs.Ytdchokeihnoepaa
open Go.RowKit Go.Lib
set_option linter.unusedVariables false
set_option linter.unusedSimpArgs false

set_option maxRecDepth 100000 in
set_option maxHeartbeats 3200000 in
theorem cb_new (c : Cfg) (x : K) (car fl : Int) (w : World) (m : Int) (hm : m ≠ 0) (cn : (∀ W, Calls Try.prog 6 #[c.V, x.V, .int .i64 7, .int .i64 8, .int .i64 9] W fun e w' => e = .returned (.tuple #[zk.V, .int .i64 m]) ∧ Below W.heap.size W w')) : Calls Try.prog 4 #[c.V, x.V, .int .i64 car, .int .i64 fl] w (Yes w true) := by
  have CN := Lib.hid cn; clear cn
  have CW := Lib.hid awake_any
  have d_m : decide (m = 0) = false := (by simpa using hm); have n_m : (m != 0) = true := (by simpa using hm); have q_m : (m == 0) = false := (by simpa using hm)
  clear hm
  have HDUO := Lib.hid (Duo.new w c x)
  go_enter Try.func4, Try.ntmps4
  go_upto_region 1 with fail
  obtain ⟨W0, hW⟩ : ∃ W, (w.alloc (.cells c.cells 24)).alloc (.cells x.cells 26) = W := ⟨_, rfl⟩
  rw [hW] at HDUO ⊢; clear hW
  generalize w.heap.size + 1 = pX at HDUO ⊢
  generalize w.heap.size = pC at HDUO ⊢
  have HC := Lib.hid HDUO.out.cat; have HX := Lib.hid HDUO.out.at_; have BW := Lib.hid HDUO.out.bel; clear HDUO
  go_wp2_with fail
  refine (CW.out _).mono ?_
  rintro e v0 ⟨rfl, hb⟩
  have HC := Lib.hid (HC.out.step hb)
  have HX := Lib.hid (HX.out.step hb)
  have BW := Lib.hid (BW.out.trans (hb.mono BW.out.size)); clear hb
  go_wp2_with (first | ((with_reducible apply wpList_load_cat (h := HC.out)); exact rfl; exact rfl; exact rfl) | ((with_reducible apply wpList_load_kat (h := HX.out)); exact rfl; exact rfl; exact rfl))
  refine (CN.out _).mono ?_
  rintro e v1 ⟨rfl, hb⟩
  have HC := Lib.hid (HC.out.step hb)
  have HX := Lib.hid (HX.out.step hb)
  have BW := Lib.hid (BW.out.trans (hb.mono BW.out.size)); clear hb
  have HY := Lib.hid (KAt.new v1 zk); have hb := below_new v1 (.cells zk.cells 26)
  have HC := Lib.hid (HC.out.step hb)
  have HX := Lib.hid (HX.out.step hb)
  have BW := Lib.hid (BW.out.trans (hb.mono BW.out.size))
  go_upto_region 4 with ((with_reducible apply wpList_store_knew (c := zk)); exact rfl; exact rfl; exact rfl; exact rfl)
  obtain ⟨V1, hW⟩ : ∃ W, v1.alloc (.cells zk.cells 26) = W := ⟨_, rfl⟩
  rw [hW] at HC HX HY BW ⊢; clear hW hb
  generalize v1.heap.size = pY at HY ⊢
  go_wp2_with fail
  go_ret
  exact ⟨rfl, BW.out⟩
set_option maxRecDepth 100000 in
set_option maxHeartbeats 3200000 in
theorem cb_car (c : Cfg) (x y : K) (car fl : Int) (w : World) (m : Int) (hm : m ≠ 0) (cn : (∀ W, Calls Try.prog 6 #[c.V, x.V, .int .i64 7, .int .i64 8, .int .i64 9] W fun e w' => e = .returned (.tuple #[y.V, .int .i64 0]) ∧ Below W.heap.size W w')) (ca : (∀ W, Calls Try.prog 7 #[c.V, y.V, .int .i64 car] W fun e w' => e = .returned (.tuple #[zk.V, .int .i64 m]) ∧ Below W.heap.size W w')) : Calls Try.prog 4 #[c.V, x.V, .int .i64 car, .int .i64 fl] w (Yes w true) := by
  have CN := Lib.hid cn; clear cn
  have CA := Lib.hid ca; clear ca
  have CW := Lib.hid awake_any
  have d_m : decide (m = 0) = false := (by simpa using hm); have n_m : (m != 0) = true := (by simpa using hm); have q_m : (m == 0) = false := (by simpa using hm)
  clear hm
  have HDUO := Lib.hid (Duo.new w c x)
  go_enter Try.func4, Try.ntmps4
  go_upto_region 1 with fail
  obtain ⟨W0, hW⟩ : ∃ W, (w.alloc (.cells c.cells 24)).alloc (.cells x.cells 26) = W := ⟨_, rfl⟩
  rw [hW] at HDUO ⊢; clear hW
  generalize w.heap.size + 1 = pX at HDUO ⊢
  generalize w.heap.size = pC at HDUO ⊢
  have HC := Lib.hid HDUO.out.cat; have HX := Lib.hid HDUO.out.at_; have BW := Lib.hid HDUO.out.bel; clear HDUO
  go_wp2_with fail
  refine (CW.out _).mono ?_
  rintro e v0 ⟨rfl, hb⟩
  have HC := Lib.hid (HC.out.step hb)
  have HX := Lib.hid (HX.out.step hb)
  have BW := Lib.hid (BW.out.trans (hb.mono BW.out.size)); clear hb
  go_wp2_with (first | ((with_reducible apply wpList_load_cat (h := HC.out)); exact rfl; exact rfl; exact rfl) | ((with_reducible apply wpList_load_kat (h := HX.out)); exact rfl; exact rfl; exact rfl))
  refine (CN.out _).mono ?_
  rintro e v1 ⟨rfl, hb⟩
  have HC := Lib.hid (HC.out.step hb)
  have HX := Lib.hid (HX.out.step hb)
  have BW := Lib.hid (BW.out.trans (hb.mono BW.out.size)); clear hb
  have HY := Lib.hid (KAt.new v1 y); have hb := below_new v1 (.cells y.cells 26)
  have HC := Lib.hid (HC.out.step hb)
  have HX := Lib.hid (HX.out.step hb)
  have BW := Lib.hid (BW.out.trans (hb.mono BW.out.size))
  go_upto_region 4 with ((with_reducible apply wpList_store_knew (c := y)); exact rfl; exact rfl; exact rfl; exact rfl)
  obtain ⟨V1, hW⟩ : ∃ W, v1.alloc (.cells y.cells 26) = W := ⟨_, rfl⟩
  rw [hW] at HC HX HY BW ⊢; clear hW hb
  generalize v1.heap.size = pY at HY ⊢
  go_wp2_with (first | ((with_reducible apply wpList_load_cat (h := HC.out)); exact rfl; exact rfl; exact rfl) | ((with_reducible apply wpList_load_kat (h := HY.out)); exact rfl; exact rfl; exact rfl))
  refine (CA.out _).mono ?_
  rintro e v2 ⟨rfl, hb⟩
  have HC := Lib.hid (HC.out.step hb)
  have HX := Lib.hid (HX.out.step hb)
  have HY := Lib.hid (HY.out.step hb)
  have BW := Lib.hid (BW.out.trans (hb.mono BW.out.size)); clear hb
  have HA := Lib.hid (KAt.new v2 zk); have hb := below_new v2 (.cells zk.cells 26)
  have HC := Lib.hid (HC.out.step hb)
  have HX := Lib.hid (HX.out.step hb)
  have HY := Lib.hid (HY.out.step hb)
  have BW := Lib.hid (BW.out.trans (hb.mono BW.out.size))
  go_upto_region 7 with ((with_reducible apply wpList_store_knew (c := zk)); exact rfl; exact rfl; exact rfl; exact rfl)
  obtain ⟨V2, hW⟩ : ∃ W, v2.alloc (.cells zk.cells 26) = W := ⟨_, rfl⟩
  rw [hW] at HC HX HY HA BW ⊢; clear hW hb
  generalize v2.heap.size = pA at HA ⊢
  go_wp2_with fail
  go_ret
  exact ⟨rfl, BW.out⟩
set_option maxRecDepth 100000 in
set_option maxHeartbeats 3200000 in
theorem cb_floor0 (c : Cfg) (x y a : K) (car fl : Int) (w : World) (h1 : fl < 1) (cn : (∀ W, Calls Try.prog 6 #[c.V, x.V, .int .i64 7, .int .i64 8, .int .i64 9] W fun e w' => e = .returned (.tuple #[y.V, .int .i64 0]) ∧ Below W.heap.size W w')) (ca : (∀ W, Calls Try.prog 7 #[c.V, y.V, .int .i64 car] W fun e w' => e = .returned (.tuple #[a.V, .int .i64 0]) ∧ Below W.heap.size W w')) (cl : (∀ W, Calls Try.prog 8 #[c.V, a.V, .int .i64 fl] W fun e w' => e = .returned (.tuple #[zk.V, .int .i64 1]) ∧ Below W.heap.size W w')) : Calls Try.prog 4 #[c.V, x.V, .int .i64 car, .int .i64 fl] w (Yes w true) := by
  have CN := Lib.hid cn; clear cn
  have CA := Lib.hid ca; clear ca
  have CL := Lib.hid cl; clear cl
  have CW := Lib.hid awake_any
  have d1 : decide (fl < 1) = true := (by simpa using h1)
  clear h1
  have HDUO := Lib.hid (Duo.new w c x)
  go_enter Try.func4, Try.ntmps4
  go_upto_region 1 with fail
  obtain ⟨W0, hW⟩ : ∃ W, (w.alloc (.cells c.cells 24)).alloc (.cells x.cells 26) = W := ⟨_, rfl⟩
  rw [hW] at HDUO ⊢; clear hW
  generalize w.heap.size + 1 = pX at HDUO ⊢
  generalize w.heap.size = pC at HDUO ⊢
  have HC := Lib.hid HDUO.out.cat; have HX := Lib.hid HDUO.out.at_; have BW := Lib.hid HDUO.out.bel; clear HDUO
  go_wp2_with fail
  refine (CW.out _).mono ?_
  rintro e v0 ⟨rfl, hb⟩
  have HC := Lib.hid (HC.out.step hb)
  have HX := Lib.hid (HX.out.step hb)
  have BW := Lib.hid (BW.out.trans (hb.mono BW.out.size)); clear hb
  go_wp2_with (first | ((with_reducible apply wpList_load_cat (h := HC.out)); exact rfl; exact rfl; exact rfl) | ((with_reducible apply wpList_load_kat (h := HX.out)); exact rfl; exact rfl; exact rfl))
  refine (CN.out _).mono ?_
  rintro e v1 ⟨rfl, hb⟩
  have HC := Lib.hid (HC.out.step hb)
  have HX := Lib.hid (HX.out.step hb)
  have BW := Lib.hid (BW.out.trans (hb.mono BW.out.size)); clear hb
  have HY := Lib.hid (KAt.new v1 y); have hb := below_new v1 (.cells y.cells 26)
  have HC := Lib.hid (HC.out.step hb)
  have HX := Lib.hid (HX.out.step hb)
  have BW := Lib.hid (BW.out.trans (hb.mono BW.out.size))
  go_upto_region 4 with ((with_reducible apply wpList_store_knew (c := y)); exact rfl; exact rfl; exact rfl; exact rfl)
  obtain ⟨V1, hW⟩ : ∃ W, v1.alloc (.cells y.cells 26) = W := ⟨_, rfl⟩
  rw [hW] at HC HX HY BW ⊢; clear hW hb
  generalize v1.heap.size = pY at HY ⊢
  go_wp2_with (first | ((with_reducible apply wpList_load_cat (h := HC.out)); exact rfl; exact rfl; exact rfl) | ((with_reducible apply wpList_load_kat (h := HY.out)); exact rfl; exact rfl; exact rfl))
  refine (CA.out _).mono ?_
  rintro e v2 ⟨rfl, hb⟩
  have HC := Lib.hid (HC.out.step hb)
  have HX := Lib.hid (HX.out.step hb)
  have HY := Lib.hid (HY.out.step hb)
  have BW := Lib.hid (BW.out.trans (hb.mono BW.out.size)); clear hb
  have HA := Lib.hid (KAt.new v2 a); have hb := below_new v2 (.cells a.cells 26)
  have HC := Lib.hid (HC.out.step hb)
  have HX := Lib.hid (HX.out.step hb)
  have HY := Lib.hid (HY.out.step hb)
  have BW := Lib.hid (BW.out.trans (hb.mono BW.out.size))
  go_upto_region 7 with ((with_reducible apply wpList_store_knew (c := a)); exact rfl; exact rfl; exact rfl; exact rfl)
  obtain ⟨V2, hW⟩ : ∃ W, v2.alloc (.cells a.cells 26) = W := ⟨_, rfl⟩
  rw [hW] at HC HX HY HA BW ⊢; clear hW hb
  generalize v2.heap.size = pA at HA ⊢
  go_wp2_with (first | ((with_reducible apply wpList_load_cat (h := HC.out)); exact rfl; exact rfl; exact rfl) | ((with_reducible apply wpList_load_kat (h := HA.out)); exact rfl; exact rfl; exact rfl))
  refine (CL.out _).mono ?_
  rintro e v3 ⟨rfl, hb⟩
  have HC := Lib.hid (HC.out.step hb)
  have HX := Lib.hid (HX.out.step hb)
  have HY := Lib.hid (HY.out.step hb)
  have HA := Lib.hid (HA.out.step hb)
  have BW := Lib.hid (BW.out.trans (hb.mono BW.out.size)); clear hb
  have HL := Lib.hid (KAt.new v3 zk); have hb := below_new v3 (.cells zk.cells 26)
  have HC := Lib.hid (HC.out.step hb)
  have HX := Lib.hid (HX.out.step hb)
  have HY := Lib.hid (HY.out.step hb)
  have HA := Lib.hid (HA.out.step hb)
  have BW := Lib.hid (BW.out.trans (hb.mono BW.out.size))
  go_upto_region 10 with ((with_reducible apply wpList_store_knew (c := zk)); exact rfl; exact rfl; exact rfl; exact rfl)
  obtain ⟨V3, hW⟩ : ∃ W, v3.alloc (.cells zk.cells 26) = W := ⟨_, rfl⟩
  rw [hW] at HC HX HY HA HL BW ⊢; clear hW hb
  generalize v3.heap.size = pL at HL ⊢
  have c0 := HC.out.get (k := 0) (by omega)
  generalize c.get 0 = fs at *
  go_wp2_with fail
  go_ret
  exact ⟨rfl, BW.out⟩
set_option maxRecDepth 100000 in
set_option maxHeartbeats 3200000 in
theorem cb_floor1 (c : Cfg) (x y a : K) (car fl : Int) (w : World) (h1 : 1 ≤ fl) (h2 : c.get 0 < fl) (cn : (∀ W, Calls Try.prog 6 #[c.V, x.V, .int .i64 7, .int .i64 8, .int .i64 9] W fun e w' => e = .returned (.tuple #[y.V, .int .i64 0]) ∧ Below W.heap.size W w')) (ca : (∀ W, Calls Try.prog 7 #[c.V, y.V, .int .i64 car] W fun e w' => e = .returned (.tuple #[a.V, .int .i64 0]) ∧ Below W.heap.size W w')) (cl : (∀ W, Calls Try.prog 8 #[c.V, a.V, .int .i64 fl] W fun e w' => e = .returned (.tuple #[zk.V, .int .i64 1]) ∧ Below W.heap.size W w')) : Calls Try.prog 4 #[c.V, x.V, .int .i64 car, .int .i64 fl] w (Yes w true) := by
  have CN := Lib.hid cn; clear cn
  have CA := Lib.hid ca; clear ca
  have CL := Lib.hid cl; clear cl
  have CW := Lib.hid awake_any
  have d1 : decide (fl < 1) = false := (by simp; omega); have d2 : decide (c.get 0 < fl) = true := (by simpa using h2)
  clear h1 h2
  have HDUO := Lib.hid (Duo.new w c x)
  go_enter Try.func4, Try.ntmps4
  go_upto_region 1 with fail
  obtain ⟨W0, hW⟩ : ∃ W, (w.alloc (.cells c.cells 24)).alloc (.cells x.cells 26) = W := ⟨_, rfl⟩
  rw [hW] at HDUO ⊢; clear hW
  generalize w.heap.size + 1 = pX at HDUO ⊢
  generalize w.heap.size = pC at HDUO ⊢
  have HC := Lib.hid HDUO.out.cat; have HX := Lib.hid HDUO.out.at_; have BW := Lib.hid HDUO.out.bel; clear HDUO
  go_wp2_with fail
  refine (CW.out _).mono ?_
  rintro e v0 ⟨rfl, hb⟩
  have HC := Lib.hid (HC.out.step hb)
  have HX := Lib.hid (HX.out.step hb)
  have BW := Lib.hid (BW.out.trans (hb.mono BW.out.size)); clear hb
  go_wp2_with (first | ((with_reducible apply wpList_load_cat (h := HC.out)); exact rfl; exact rfl; exact rfl) | ((with_reducible apply wpList_load_kat (h := HX.out)); exact rfl; exact rfl; exact rfl))
  refine (CN.out _).mono ?_
  rintro e v1 ⟨rfl, hb⟩
  have HC := Lib.hid (HC.out.step hb)
  have HX := Lib.hid (HX.out.step hb)
  have BW := Lib.hid (BW.out.trans (hb.mono BW.out.size)); clear hb
  have HY := Lib.hid (KAt.new v1 y); have hb := below_new v1 (.cells y.cells 26)
  have HC := Lib.hid (HC.out.step hb)
  have HX := Lib.hid (HX.out.step hb)
  have BW := Lib.hid (BW.out.trans (hb.mono BW.out.size))
  go_upto_region 4 with ((with_reducible apply wpList_store_knew (c := y)); exact rfl; exact rfl; exact rfl; exact rfl)
  obtain ⟨V1, hW⟩ : ∃ W, v1.alloc (.cells y.cells 26) = W := ⟨_, rfl⟩
  rw [hW] at HC HX HY BW ⊢; clear hW hb
  generalize v1.heap.size = pY at HY ⊢
  go_wp2_with (first | ((with_reducible apply wpList_load_cat (h := HC.out)); exact rfl; exact rfl; exact rfl) | ((with_reducible apply wpList_load_kat (h := HY.out)); exact rfl; exact rfl; exact rfl))
  refine (CA.out _).mono ?_
  rintro e v2 ⟨rfl, hb⟩
  have HC := Lib.hid (HC.out.step hb)
  have HX := Lib.hid (HX.out.step hb)
  have HY := Lib.hid (HY.out.step hb)
  have BW := Lib.hid (BW.out.trans (hb.mono BW.out.size)); clear hb
  have HA := Lib.hid (KAt.new v2 a); have hb := below_new v2 (.cells a.cells 26)
  have HC := Lib.hid (HC.out.step hb)
  have HX := Lib.hid (HX.out.step hb)
  have HY := Lib.hid (HY.out.step hb)
  have BW := Lib.hid (BW.out.trans (hb.mono BW.out.size))
  go_upto_region 7 with ((with_reducible apply wpList_store_knew (c := a)); exact rfl; exact rfl; exact rfl; exact rfl)
  obtain ⟨V2, hW⟩ : ∃ W, v2.alloc (.cells a.cells 26) = W := ⟨_, rfl⟩
  rw [hW] at HC HX HY HA BW ⊢; clear hW hb
  generalize v2.heap.size = pA at HA ⊢
  go_wp2_with (first | ((with_reducible apply wpList_load_cat (h := HC.out)); exact rfl; exact rfl; exact rfl) | ((with_reducible apply wpList_load_kat (h := HA.out)); exact rfl; exact rfl; exact rfl))
  refine (CL.out _).mono ?_
  rintro e v3 ⟨rfl, hb⟩
  have HC := Lib.hid (HC.out.step hb)
  have HX := Lib.hid (HX.out.step hb)
  have HY := Lib.hid (HY.out.step hb)
  have HA := Lib.hid (HA.out.step hb)
  have BW := Lib.hid (BW.out.trans (hb.mono BW.out.size)); clear hb
  have HL := Lib.hid (KAt.new v3 zk); have hb := below_new v3 (.cells zk.cells 26)
  have HC := Lib.hid (HC.out.step hb)
  have HX := Lib.hid (HX.out.step hb)
  have HY := Lib.hid (HY.out.step hb)
  have HA := Lib.hid (HA.out.step hb)
  have BW := Lib.hid (BW.out.trans (hb.mono BW.out.size))
  go_upto_region 10 with ((with_reducible apply wpList_store_knew (c := zk)); exact rfl; exact rfl; exact rfl; exact rfl)
  obtain ⟨V3, hW⟩ : ∃ W, v3.alloc (.cells zk.cells 26) = W := ⟨_, rfl⟩
  rw [hW] at HC HX HY HA HL BW ⊢; clear hW hb
  generalize v3.heap.size = pL at HL ⊢
  have c0 := HC.out.get (k := 0) (by omega)
  generalize c.get 0 = fs at *
  go_wp2_with fail
  go_ret
  exact ⟨rfl, BW.out⟩
set_option maxRecDepth 100000 in
set_option maxHeartbeats 3200000 in
theorem cb_other (c : Cfg) (x y a : K) (car fl : Int) (w : World) (h1 : 1 ≤ fl) (h2 : fl ≤ c.get 0) (hk : x.kind ≠ 4) (cn : (∀ W, Calls Try.prog 6 #[c.V, x.V, .int .i64 7, .int .i64 8, .int .i64 9] W fun e w' => e = .returned (.tuple #[y.V, .int .i64 0]) ∧ Below W.heap.size W w')) (ca : (∀ W, Calls Try.prog 7 #[c.V, y.V, .int .i64 car] W fun e w' => e = .returned (.tuple #[a.V, .int .i64 0]) ∧ Below W.heap.size W w')) (cl : (∀ W, Calls Try.prog 8 #[c.V, a.V, .int .i64 fl] W fun e w' => e = .returned (.tuple #[y.V, .int .i64 0]) ∧ Below W.heap.size W w')) (cb : (∀ W, Calls Try.prog 9 #[a.V] W fun e w' => e = .returned (.tuple #[zk.V, .int .i64 7]) ∧ Below W.heap.size W w')) : Calls Try.prog 4 #[c.V, x.V, .int .i64 car, .int .i64 fl] w (Yes w true) := by
  have CN := Lib.hid cn; clear cn
  have CA := Lib.hid ca; clear ca
  have CL := Lib.hid cl; clear cl
  have CW := Lib.hid awake_any
  have d1 : decide (fl < 1) = false := (by simp; omega); have d2 : decide (c.get 0 < fl) = false := (by simp; omega)
  clear h1 h2
  have d3 : decide (x.kind = 4) = false := (by simpa using hk); have n3 : (x.kind != 4) = true := (by simpa using hk)
  clear hk
  have HDUO := Lib.hid (Duo.new w c x)
  go_enter Try.func4, Try.ntmps4
  go_upto_region 1 with fail
  obtain ⟨W0, hW⟩ : ∃ W, (w.alloc (.cells c.cells 24)).alloc (.cells x.cells 26) = W := ⟨_, rfl⟩
  rw [hW] at HDUO ⊢; clear hW
  generalize w.heap.size + 1 = pX at HDUO ⊢
  generalize w.heap.size = pC at HDUO ⊢
  have HC := Lib.hid HDUO.out.cat; have HX := Lib.hid HDUO.out.at_; have BW := Lib.hid HDUO.out.bel; clear HDUO
  go_wp2_with fail
  refine (CW.out _).mono ?_
  rintro e v0 ⟨rfl, hb⟩
  have HC := Lib.hid (HC.out.step hb)
  have HX := Lib.hid (HX.out.step hb)
  have BW := Lib.hid (BW.out.trans (hb.mono BW.out.size)); clear hb
  go_wp2_with (first | ((with_reducible apply wpList_load_cat (h := HC.out)); exact rfl; exact rfl; exact rfl) | ((with_reducible apply wpList_load_kat (h := HX.out)); exact rfl; exact rfl; exact rfl))
  refine (CN.out _).mono ?_
  rintro e v1 ⟨rfl, hb⟩
  have HC := Lib.hid (HC.out.step hb)
  have HX := Lib.hid (HX.out.step hb)
  have BW := Lib.hid (BW.out.trans (hb.mono BW.out.size)); clear hb
  have HY := Lib.hid (KAt.new v1 y); have hb := below_new v1 (.cells y.cells 26)
  have HC := Lib.hid (HC.out.step hb)
  have HX := Lib.hid (HX.out.step hb)
  have BW := Lib.hid (BW.out.trans (hb.mono BW.out.size))
  go_upto_region 4 with ((with_reducible apply wpList_store_knew (c := y)); exact rfl; exact rfl; exact rfl; exact rfl)
  obtain ⟨V1, hW⟩ : ∃ W, v1.alloc (.cells y.cells 26) = W := ⟨_, rfl⟩
  rw [hW] at HC HX HY BW ⊢; clear hW hb
  generalize v1.heap.size = pY at HY ⊢
  go_wp2_with (first | ((with_reducible apply wpList_load_cat (h := HC.out)); exact rfl; exact rfl; exact rfl) | ((with_reducible apply wpList_load_kat (h := HY.out)); exact rfl; exact rfl; exact rfl))
  refine (CA.out _).mono ?_
  rintro e v2 ⟨rfl, hb⟩
  have HC := Lib.hid (HC.out.step hb)
  have HX := Lib.hid (HX.out.step hb)
  have HY := Lib.hid (HY.out.step hb)
  have BW := Lib.hid (BW.out.trans (hb.mono BW.out.size)); clear hb
  have HA := Lib.hid (KAt.new v2 a); have hb := below_new v2 (.cells a.cells 26)
  have HC := Lib.hid (HC.out.step hb)
  have HX := Lib.hid (HX.out.step hb)
  have HY := Lib.hid (HY.out.step hb)
  have BW := Lib.hid (BW.out.trans (hb.mono BW.out.size))
  go_upto_region 7 with ((with_reducible apply wpList_store_knew (c := a)); exact rfl; exact rfl; exact rfl; exact rfl)
  obtain ⟨V2, hW⟩ : ∃ W, v2.alloc (.cells a.cells 26) = W := ⟨_, rfl⟩
  rw [hW] at HC HX HY HA BW ⊢; clear hW hb
  generalize v2.heap.size = pA at HA ⊢
  go_wp2_with (first | ((with_reducible apply wpList_load_cat (h := HC.out)); exact rfl; exact rfl; exact rfl) | ((with_reducible apply wpList_load_kat (h := HA.out)); exact rfl; exact rfl; exact rfl))
  refine (CL.out _).mono ?_
  rintro e v3 ⟨rfl, hb⟩
  have HC := Lib.hid (HC.out.step hb)
  have HX := Lib.hid (HX.out.step hb)
  have HY := Lib.hid (HY.out.step hb)
  have HA := Lib.hid (HA.out.step hb)
  have BW := Lib.hid (BW.out.trans (hb.mono BW.out.size)); clear hb
  have HL := Lib.hid (KAt.new v3 y); have hb := below_new v3 (.cells y.cells 26)
  have HC := Lib.hid (HC.out.step hb)
  have HX := Lib.hid (HX.out.step hb)
  have HY := Lib.hid (HY.out.step hb)
  have HA := Lib.hid (HA.out.step hb)
  have BW := Lib.hid (BW.out.trans (hb.mono BW.out.size))
  go_upto_region 10 with ((with_reducible apply wpList_store_knew (c := y)); exact rfl; exact rfl; exact rfl; exact rfl)
  obtain ⟨V3, hW⟩ : ∃ W, v3.alloc (.cells y.cells 26) = W := ⟨_, rfl⟩
  rw [hW] at HC HX HY HA HL BW ⊢; clear hW hb
  generalize v3.heap.size = pL at HL ⊢
  have c0 := HC.out.get (k := 0) (by omega)
  generalize c.get 0 = fs at *
  have HQ : Hid ((!K.beq y y) = false) := Lib.hid (by rw [K.beq_self]; rfl)
  go_upto_region 14 with (first | ((with_reducible apply wpList_load_kat (h := HL.out)); exact rfl; exact rfl; exact rfl) | ((with_reducible apply wpList_load_kat (h := HY.out)); exact rfl; exact rfl; exact rfl) | ((with_reducible apply wpList_neq_kat (c := y) (d := y) (hb := HQ.out)); exact rfl; exact rfl; exact rfl; exact rfl))
  clear c0
  have CB := Lib.hid cb; clear cb
  go_wp2_with ((with_reducible apply wpList_load_kat (h := HA.out)); exact rfl; exact rfl; exact rfl)
  refine (CB.out _).mono ?_
  rintro e v4 ⟨rfl, hb⟩
  have HC := Lib.hid (HC.out.step hb)
  have HX := Lib.hid (HX.out.step hb)
  have HY := Lib.hid (HY.out.step hb)
  have HA := Lib.hid (HA.out.step hb)
  have HL := Lib.hid (HL.out.step hb)
  have BW := Lib.hid (BW.out.trans (hb.mono BW.out.size)); clear hb
  have HB := Lib.hid (KAt.new v4 zk); have hb := below_new v4 (.cells zk.cells 26)
  have HC := Lib.hid (HC.out.step hb)
  have HX := Lib.hid (HX.out.step hb)
  have HY := Lib.hid (HY.out.step hb)
  have HA := Lib.hid (HA.out.step hb)
  have HL := Lib.hid (HL.out.step hb)
  have BW := Lib.hid (BW.out.trans (hb.mono BW.out.size))
  go_upto_region 15 with ((with_reducible apply wpList_store_knew (c := zk)); exact rfl; exact rfl; exact rfl; exact rfl)
  obtain ⟨V4, hW⟩ : ∃ W, v4.alloc (.cells zk.cells 26) = W := ⟨_, rfl⟩
  rw [hW] at HC HX HY HA HL HB BW ⊢; clear hW hb
  generalize v4.heap.size = pB at HB ⊢
  have k1 := HX.out.get1
  go_wp2_with fail
  go_ret
  exact ⟨rfl, BW.out⟩
end Go.Proofs.Ytdchokeihnoepaa
