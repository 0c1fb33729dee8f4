/- The anchor 'awake' of the statements returns true, and leaves what was there as it was. -/
import Derived.Test.YtdchokeihnoepaaWays
namespace Go.Proofs.Ytdchokeihnoepaa
open Go.RowKit Go.Lib
set_option linter.unusedVariables false
set_option linter.unusedSimpArgs false

def t24 : K := ⟨0, 4, 2, 4, 0, 0, 0, 0⟩
def u5 : K := ⟨0, 1, 5, 0, 0, 0, 0, 0⟩
def kx : K := ⟨1, 4, 2, 4, 0, 1, 9, 0⟩
def ka : K := ⟨1, 4, 2, 4, 1, 2, 9, 0⟩
def kb : K := ⟨1, 4, 2, 4, 1, 3, 9, 0⟩
def kd : K := ⟨1, 4, 2, 4, 1, 4, 9, 0⟩
theorem ans_as {f : Nat} {args : Array Value} {r : K × Int} {d : K} {n : Int} (h : ∀ W, Calls Try.prog f args W (Ans W r)) (e : r = (d, n)) : ∀ W, Calls Try.prog f args W fun e w' => e = .returned (.tuple #[d.V, .int .i64 n]) ∧ Below W.heap.size W w' := by
  subst e; exact h
theorem num_as {f : Nat} {args : Array Value} {r n : Int} (h : ∀ W, Calls Try.prog f args W (Num W r)) (e : r = n) : ∀ W, Calls Try.prog f args W fun e w' => e = .returned (.int .i64 n) ∧ Below W.heap.size W w' := by
  subst e; exact h
theorem yes_as {f : Nat} {args : Array Value} {r n : Bool} (h : ∀ W, Calls Try.prog f args W (Yes W r)) (e : r = n) : ∀ W, Calls Try.prog f args W fun e w' => e = .returned (.bool n) ∧ Below W.heap.size W w' := by
  subst e; exact h
set_option maxRecDepth 100000 in
set_option maxHeartbeats 3200000 in
theorem awake_any (w : World) : Calls Try.prog 5 #[] w (Yes w true) := by
  have CS := Lib.hid small_any
  have C2 := Lib.hid (ans_as (n := 0) (d := kx) (fun W => new_1_9_0 small t24 W) (by rfl))
  have C3 := Lib.hid (ans_as (n := 0) (d := ka) (fun W => assign_any small kx 1 W) (by rfl))
  have C4 := Lib.hid (ans_as (n := 0) (d := kb) (fun W => board_any ka W) (by rfl))
  have C5 := Lib.hid (ans_as (n := 0) (d := kd) (fun W => serve_any kb W) (by rfl))
  have C6 := Lib.hid (ans_as (n := 7) (d := zk) (fun W => serve_any ka W) (by rfl))
  have C7 := Lib.hid (ans_as (n := 1) (d := zk) (fun W => new_1_1_1 small u5 W) (by rfl))
  have G1 := Lib.hid (num_as (n := 2) (fun W => goal_any ka W) (by rfl))
  have G2 := Lib.hid (num_as (n := 4) (fun W => goal_any kb W) (by rfl))
  have G3 := Lib.hid (num_as (n := 1) (fun W => dir_any kb W) (by rfl))
  have M1 := Lib.hid (yes_as (n := true) (fun W => may_any small ka kb W) (by rfl))
  have M2 := Lib.hid (yes_as (n := false) (fun W => may_any small kb ka W) (by rfl))
  have L1 := Lib.hid (yes_as (n := false) (fun W => lives_any kd W) (by rfl))
  go_enter Try.func5, Try.ntmps5
  go_wp2_with fail
  refine (CS.out _).mono ?_
  rintro e w0 ⟨rfl, hcur⟩
  go_upto_region 2 with (refine wpList_store_row rfl 24 _ _ rfl _ small.cells rfl rfl 24 _ (heap_alloc_new _ _) (size24 small) (by rw [small.size]; rfl) small.one ?_; rw [World.setRow_alloc_new])
  have HC := Lib.hid (CAt.new w0 small)
  have BW := Lib.hid (hcur.trans ((below_new w0 (.cells small.cells 24)).mono hcur.size))
  obtain ⟨W1, hW1⟩ : ∃ W1, w0.alloc (.cells small.cells 24) = W1 := ⟨_, rfl⟩
  rw [hW1] at HC BW ⊢; clear hW1 hcur
  generalize w0.heap.size = p0 at HC ⊢
  go_wp2_with ((with_reducible apply wpList_load_cat (h := HC.out)); exact rfl; exact rfl; exact rfl)
  refine (C2.out _).mono ?_
  rintro e v1 ⟨rfl, hb⟩
  have HC := Lib.hid (HC.out.step hb)
  have BW := Lib.hid (BW.out.trans (hb.mono BW.out.size)); clear hb
  have HX := Lib.hid (KAt.new v1 kx); have hb := below_new v1 (.cells kx.cells 26)
  have HC := Lib.hid (HC.out.step hb)
  have BW := Lib.hid (BW.out.trans (hb.mono BW.out.size))
  go_upto_region 3 with ((with_reducible apply wpList_store_knew (c := kx)); exact rfl; exact rfl; exact rfl; exact rfl)
  obtain ⟨V1, hW⟩ : ∃ W, v1.alloc (.cells kx.cells 26) = W := ⟨_, rfl⟩
  rw [hW] at HC HX BW ⊢; clear hW hb
  generalize v1.heap.size = p1 at HX ⊢
  go_wp2_with (first | ((with_reducible apply wpList_load_cat (h := HC.out)); exact rfl; exact rfl; exact rfl) | ((with_reducible apply wpList_load_kat (h := HX.out)); exact rfl; exact rfl; exact rfl))
  refine (C3.out _).mono ?_
  rintro e v2 ⟨rfl, hb⟩
  have HC := Lib.hid (HC.out.step hb)
  have HX := Lib.hid (HX.out.step hb)
  have BW := Lib.hid (BW.out.trans (hb.mono BW.out.size)); clear hb
  have HA := Lib.hid (KAt.new v2 ka); have hb := below_new v2 (.cells ka.cells 26)
  have HC := Lib.hid (HC.out.step hb)
  have HX := Lib.hid (HX.out.step hb)
  have BW := Lib.hid (BW.out.trans (hb.mono BW.out.size))
  go_upto_region 4 with ((with_reducible apply wpList_store_knew (c := ka)); exact rfl; exact rfl; exact rfl; exact rfl)
  obtain ⟨V2, hW⟩ : ∃ W, v2.alloc (.cells ka.cells 26) = W := ⟨_, rfl⟩
  rw [hW] at HC HX HA BW ⊢; clear hW hb
  generalize v2.heap.size = p2 at HA ⊢
  go_wp2_with ((with_reducible apply wpList_load_kat (h := HA.out)); exact rfl; exact rfl; exact rfl)
  refine (C4.out _).mono ?_
  rintro e v3 ⟨rfl, hb⟩
  have HC := Lib.hid (HC.out.step hb)
  have HX := Lib.hid (HX.out.step hb)
  have HA := Lib.hid (HA.out.step hb)
  have BW := Lib.hid (BW.out.trans (hb.mono BW.out.size)); clear hb
  have HB := Lib.hid (KAt.new v3 kb); have hb := below_new v3 (.cells kb.cells 26)
  have HC := Lib.hid (HC.out.step hb)
  have HX := Lib.hid (HX.out.step hb)
  have HA := Lib.hid (HA.out.step hb)
  have BW := Lib.hid (BW.out.trans (hb.mono BW.out.size))
  go_upto_region 5 with ((with_reducible apply wpList_store_knew (c := kb)); exact rfl; exact rfl; exact rfl; exact rfl)
  obtain ⟨V3, hW⟩ : ∃ W, v3.alloc (.cells kb.cells 26) = W := ⟨_, rfl⟩
  rw [hW] at HC HX HA HB BW ⊢; clear hW hb
  generalize v3.heap.size = p3 at HB ⊢
  go_wp2_with ((with_reducible apply wpList_load_kat (h := HB.out)); exact rfl; exact rfl; exact rfl)
  refine (C5.out _).mono ?_
  rintro e v4 ⟨rfl, hb⟩
  have HC := Lib.hid (HC.out.step hb)
  have HX := Lib.hid (HX.out.step hb)
  have HA := Lib.hid (HA.out.step hb)
  have HB := Lib.hid (HB.out.step hb)
  have BW := Lib.hid (BW.out.trans (hb.mono BW.out.size)); clear hb
  have HD := Lib.hid (KAt.new v4 kd); have hb := below_new v4 (.cells kd.cells 26)
  have HC := Lib.hid (HC.out.step hb)
  have HX := Lib.hid (HX.out.step hb)
  have HA := Lib.hid (HA.out.step hb)
  have HB := Lib.hid (HB.out.step hb)
  have BW := Lib.hid (BW.out.trans (hb.mono BW.out.size))
  go_upto_region 6 with ((with_reducible apply wpList_store_knew (c := kd)); exact rfl; exact rfl; exact rfl; exact rfl)
  obtain ⟨V4, hW⟩ : ∃ W, v4.alloc (.cells kd.cells 26) = W := ⟨_, rfl⟩
  rw [hW] at HC HX HA HB HD BW ⊢; clear hW hb
  generalize v4.heap.size = p4 at HD ⊢
  go_wp2_with ((with_reducible apply wpList_load_kat (h := HA.out)); exact rfl; exact rfl; exact rfl)
  refine (C6.out _).mono ?_
  rintro e v5 ⟨rfl, hb⟩
  have HC := Lib.hid (HC.out.step hb)
  have HX := Lib.hid (HX.out.step hb)
  have HA := Lib.hid (HA.out.step hb)
  have HB := Lib.hid (HB.out.step hb)
  have HD := Lib.hid (HD.out.step hb)
  have BW := Lib.hid (BW.out.trans (hb.mono BW.out.size)); clear hb
  have HE := Lib.hid (KAt.new v5 zk); have hb := below_new v5 (.cells zk.cells 26)
  have HC := Lib.hid (HC.out.step hb)
  have HX := Lib.hid (HX.out.step hb)
  have HA := Lib.hid (HA.out.step hb)
  have HB := Lib.hid (HB.out.step hb)
  have HD := Lib.hid (HD.out.step hb)
  have BW := Lib.hid (BW.out.trans (hb.mono BW.out.size))
  go_upto_region 7 with ((with_reducible apply wpList_store_knew (c := zk)); exact rfl; exact rfl; exact rfl; exact rfl)
  obtain ⟨V5, hW⟩ : ∃ W, v5.alloc (.cells zk.cells 26) = W := ⟨_, rfl⟩
  rw [hW] at HC HX HA HB HD HE BW ⊢; clear hW hb
  generalize v5.heap.size = p5 at HE ⊢
  go_wp2_with ((with_reducible apply wpList_load_cat (h := HC.out)); exact rfl; exact rfl; exact rfl)
  refine (C7.out _).mono ?_
  rintro e v6 ⟨rfl, hb⟩
  have HC := Lib.hid (HC.out.step hb)
  have HX := Lib.hid (HX.out.step hb)
  have HA := Lib.hid (HA.out.step hb)
  have HB := Lib.hid (HB.out.step hb)
  have HD := Lib.hid (HD.out.step hb)
  have HE := Lib.hid (HE.out.step hb)
  have BW := Lib.hid (BW.out.trans (hb.mono BW.out.size)); clear hb
  have HF := Lib.hid (KAt.new v6 zk); have hb := below_new v6 (.cells zk.cells 26)
  have HC := Lib.hid (HC.out.step hb)
  have HX := Lib.hid (HX.out.step hb)
  have HA := Lib.hid (HA.out.step hb)
  have HB := Lib.hid (HB.out.step hb)
  have HD := Lib.hid (HD.out.step hb)
  have HE := Lib.hid (HE.out.step hb)
  have BW := Lib.hid (BW.out.trans (hb.mono BW.out.size))
  go_upto_region 8 with ((with_reducible apply wpList_store_knew (c := zk)); exact rfl; exact rfl; exact rfl; exact rfl)
  obtain ⟨V6, hW⟩ : ∃ W, v6.alloc (.cells zk.cells 26) = W := ⟨_, rfl⟩
  rw [hW] at HC HX HA HB HD HE HF BW ⊢; clear hW hb
  generalize v6.heap.size = p6 at HF ⊢
  simp only [List.append_eq, List.cons_append, List.nil_append]
  have x5 : _ = some (Value.int IntKind.i64 1) := HX.out.get5; have a4 : _ = some (Value.int IntKind.i64 1) := HA.out.get4; have d5 : _ = some (Value.int IntKind.i64 4) := HD.out.get5
  go_wp2_with ((with_reducible apply wpList_load_kat (h := HA.out)); exact rfl; exact rfl; exact rfl)
  clear x5 a4 d5
  refine (G1.out _).mono ?_
  rintro e v7 ⟨rfl, hb⟩
  have HC := Lib.hid (HC.out.step hb)
  have HX := Lib.hid (HX.out.step hb)
  have HA := Lib.hid (HA.out.step hb)
  have HB := Lib.hid (HB.out.step hb)
  have HD := Lib.hid (HD.out.step hb)
  have HE := Lib.hid (HE.out.step hb)
  have HF := Lib.hid (HF.out.step hb)
  have BW := Lib.hid (BW.out.trans (hb.mono BW.out.size)); clear hb
  have x5 : _ = some (Value.int IntKind.i64 1) := HX.out.get5; have a4 : _ = some (Value.int IntKind.i64 1) := HA.out.get4; have d5 : _ = some (Value.int IntKind.i64 4) := HD.out.get5
  go_wp2_with ((with_reducible apply wpList_load_kat (h := HB.out)); exact rfl; exact rfl; exact rfl)
  clear x5 a4 d5
  refine (G2.out _).mono ?_
  rintro e v8 ⟨rfl, hb⟩
  have HC := Lib.hid (HC.out.step hb)
  have HX := Lib.hid (HX.out.step hb)
  have HA := Lib.hid (HA.out.step hb)
  have HB := Lib.hid (HB.out.step hb)
  have HD := Lib.hid (HD.out.step hb)
  have HE := Lib.hid (HE.out.step hb)
  have HF := Lib.hid (HF.out.step hb)
  have BW := Lib.hid (BW.out.trans (hb.mono BW.out.size)); clear hb
  have x5 : _ = some (Value.int IntKind.i64 1) := HX.out.get5; have a4 : _ = some (Value.int IntKind.i64 1) := HA.out.get4; have d5 : _ = some (Value.int IntKind.i64 4) := HD.out.get5
  go_wp2_with ((with_reducible apply wpList_load_kat (h := HB.out)); exact rfl; exact rfl; exact rfl)
  clear x5 a4 d5
  refine (G3.out _).mono ?_
  rintro e v9 ⟨rfl, hb⟩
  have HC := Lib.hid (HC.out.step hb)
  have HX := Lib.hid (HX.out.step hb)
  have HA := Lib.hid (HA.out.step hb)
  have HB := Lib.hid (HB.out.step hb)
  have HD := Lib.hid (HD.out.step hb)
  have HE := Lib.hid (HE.out.step hb)
  have HF := Lib.hid (HF.out.step hb)
  have BW := Lib.hid (BW.out.trans (hb.mono BW.out.size)); clear hb
  have x5 : _ = some (Value.int IntKind.i64 1) := HX.out.get5; have a4 : _ = some (Value.int IntKind.i64 1) := HA.out.get4; have d5 : _ = some (Value.int IntKind.i64 4) := HD.out.get5
  go_wp2_with (first | ((with_reducible apply wpList_load_cat (h := HC.out)); exact rfl; exact rfl; exact rfl) | ((with_reducible apply wpList_load_kat (h := HA.out)); exact rfl; exact rfl; exact rfl) | ((with_reducible apply wpList_load_kat (h := HB.out)); exact rfl; exact rfl; exact rfl))
  clear x5 a4 d5
  refine (M1.out _).mono ?_
  rintro e v10 ⟨rfl, hb⟩
  have HC := Lib.hid (HC.out.step hb)
  have HX := Lib.hid (HX.out.step hb)
  have HA := Lib.hid (HA.out.step hb)
  have HB := Lib.hid (HB.out.step hb)
  have HD := Lib.hid (HD.out.step hb)
  have HE := Lib.hid (HE.out.step hb)
  have HF := Lib.hid (HF.out.step hb)
  have BW := Lib.hid (BW.out.trans (hb.mono BW.out.size)); clear hb
  have x5 : _ = some (Value.int IntKind.i64 1) := HX.out.get5; have a4 : _ = some (Value.int IntKind.i64 1) := HA.out.get4; have d5 : _ = some (Value.int IntKind.i64 4) := HD.out.get5
  go_wp2_with (first | ((with_reducible apply wpList_load_cat (h := HC.out)); exact rfl; exact rfl; exact rfl) | ((with_reducible apply wpList_load_kat (h := HA.out)); exact rfl; exact rfl; exact rfl) | ((with_reducible apply wpList_load_kat (h := HB.out)); exact rfl; exact rfl; exact rfl))
  clear x5 a4 d5
  refine (M2.out _).mono ?_
  rintro e v11 ⟨rfl, hb⟩
  have HC := Lib.hid (HC.out.step hb)
  have HX := Lib.hid (HX.out.step hb)
  have HA := Lib.hid (HA.out.step hb)
  have HB := Lib.hid (HB.out.step hb)
  have HD := Lib.hid (HD.out.step hb)
  have HE := Lib.hid (HE.out.step hb)
  have HF := Lib.hid (HF.out.step hb)
  have BW := Lib.hid (BW.out.trans (hb.mono BW.out.size)); clear hb
  have x5 : _ = some (Value.int IntKind.i64 1) := HX.out.get5; have a4 : _ = some (Value.int IntKind.i64 1) := HA.out.get4; have d5 : _ = some (Value.int IntKind.i64 4) := HD.out.get5
  go_wp2_with ((with_reducible apply wpList_load_kat (h := HD.out)); exact rfl; exact rfl; exact rfl)
  clear x5 a4 d5
  refine (L1.out _).mono ?_
  rintro e v12 ⟨rfl, hb⟩
  have HC := Lib.hid (HC.out.step hb)
  have HX := Lib.hid (HX.out.step hb)
  have HA := Lib.hid (HA.out.step hb)
  have HB := Lib.hid (HB.out.step hb)
  have HD := Lib.hid (HD.out.step hb)
  have HE := Lib.hid (HE.out.step hb)
  have HF := Lib.hid (HF.out.step hb)
  have BW := Lib.hid (BW.out.trans (hb.mono BW.out.size)); clear hb
  go_wp2_with fail
  go_ret
  exact ⟨rfl, BW.out⟩
end Go.Proofs.Ytdchokeihnoepaa
