import Derived.Test.YtplapoenhohliaaGreatBkH
namespace Go.Proofs.YtplapoenhohliaaGreat
open Go.RowKit Go.Lib
open Sh.Plain (KV get put del Rise)
set_option linter.unusedVariables false
set_option linter.unusedSimpArgs false
structure Bk.Ok (b : Bk) : Prop where
 pos : b.c.beq zc = false → 0 < b.rm
 ix : 0 ≤ b.ix ∧ b.ix ≤ top
theorem okc_zc : okc zc = false := by decide
theorem nil_of_bad {c : Cfg} (h : okc c = true) : c.beq zc = false := Cfg.beq_ne (fun e => by rw [e, okc_zc] at h; cases h)
theorem Bk.Ok.wrap {b : Bk} (h : b.Ok) : IntKind.i64.wrap (b.ix + 1) = b.ix + 1 := by
 have := h.ix; unfold top at this; exact IntWalk.i64_in _ (by omega)
structure YSt (w W : World) (g q r : Nat) (b : Bk) (o p : Option Addr) : Prop where
 bel : Below w.heap.size w W
 bk : BkAt W g b o p
 ans : BkAt W q zb none none
 an2 : CgAt W r zg
 lo : w.heap.size ≤ q ∧ w.heap.size ≤ r
theorem YSt.step {w W W' : World} {g q r : Nat} {b : Bk} {o p : Option Addr} (h : YSt w W g q r b o p) (hb : Below W.heap.size W W') : YSt w W' g q r b o p := ⟨h.bel.trans (hb.mono h.bel.size), h.bk.step hb, h.ans.step hb, h.an2.step hb, h.lo⟩
theorem YSt.new3 (w : World) (b : Bk) (o p : Option Addr) : YSt w (((w.alloc (.cells (b.cells o p) 37)).alloc (.cells Z29 37)).alloc (.cells Z11 48)) w.heap.size (w.heap.size + 1) (w.heap.size + 1 + 1) b o p := by
 obtain ⟨h1, h2, h3, h4⟩ := YtplapoenhohliaaGreat.new3 w (b.cells o p) Z29 Z11 37 37 48
 exact ⟨h1, h2, h3, h4, ⟨by omega, by omega⟩⟩
theorem YSt.new4 (w : World) (b : Bk) (o p : Option Addr) (x : K) : YSt w ((((w.alloc (.cells (b.cells o p) 37)).alloc (.cells x.cells 46)).alloc (.cells Z29 37)).alloc (.cells Z11 48)) w.heap.size (w.heap.size + 1 + 1) (w.heap.size + 1 + 1 + 1) b o p ∧ KAt ((((w.alloc (.cells (b.cells o p) 37)).alloc (.cells x.cells 46)).alloc (.cells Z29 37)).alloc (.cells Z11 48)) (w.heap.size + 1) x := by
 obtain ⟨h1, h2, h3, h4, h5⟩ := YtplapoenhohliaaGreat.new4 w (b.cells o p) x.cells Z29 Z11 37 46 37 48
 exact ⟨⟨h1, h2, h4, h5, ⟨by omega, by omega⟩⟩, h3⟩
def placeB (b : Bk) (x : K) (n m : Int) : Bk × Cg × Int :=
 if (newA b.c x (b.ix + 1) n m).2 ≠ 0 then (zb, zg, (newA b.c x (b.ix + 1) n m).2) else if b.live.length = b.rm then (zb, zg, 5) else changedB b ⟨0, (newA b.c x (b.ix + 1) n m).1, 0, 0⟩
def cancelB (b : Bk) (i n : Int) : Bk × Cg × Int :=
 if b.c.beq zc = true then (zb, zg, 3) else match findB b i with
  | none => (zb, zg, 6)
  | some x => if x.own ≠ n then (zb, zg, 8) else if (cancelK x).2 ≠ 0 then (zb, zg, (cancelK x).2) else changedB b ⟨0, (cancelK x).1, 0, 0⟩
def haveB (b : Bk) (n m : Int) : Bool := modeB b n != 0 && (m == 1 || m == 2)
def setB (b : Bk) (n m : Int) : Bk × Cg × Int := if b.c.beq zc = true then (zb, zg, 3) else if haveB b n m = false then (zb, zg, 1) else changedB b ⟨0, zk, n, m⟩
theorem haveB_car {b : Bk} {n m : Int} (h : haveB b n m = true) : 1 ≤ n ∧ n ≤ 4 := by
 unfold haveB modeB at h
 apply Decidable.byContradiction
 intro hn
 rw [if_neg hn] at h
 simp at h
theorem newA_okc {c : Cfg} {x : K} {i n m : Int} (h : (newA c x i n m).2 = 0) : okc c = true := by
 cases e : okc c
 ·have h3 : chkK c x = 3 := chkK_no e
  rw [newA_no (by rw [h3]; decide), h3] at h
  exact absurd h (by decide)
 ·rfl
set_option maxRecDepth 100000 in
set_option maxHeartbeats 1600000 in
theorem place_bad {b : Bk} {o p : Option Addr} {x : K} {n m : Int} {w : World} (hb : BAt w b o p) (hok : b.Ok) (h0 : (newA b.c x (b.ix + 1) n m).2 ≠ 0) : Calls Tryz.prog 14 #[b.V o p, x.V, .int .i64 n, .int .i64 m] w (B3 w (placeB b x n m)) := by
 have HT := Lib.hid (YSt.new4 w b o p x)
 have HA := Lib.hid (hb.step HT.out.1.bel); clear hb
 have CN0 := fun W => newA_any b.c x (b.ix + 1) n m W
 have hw := hok.wrap
 have HOK := Lib.hid hok; clear hok
 rw [show placeB b x n m = (zb, zg, (newA b.c x (b.ix + 1) n m).2) from if_pos h0]
 generalize newA b.c x (b.ix + 1) n m = rr at *
 obtain ⟨k, z⟩ := rr
 have h0 : z ≠ 0 := h0
 have d1 : decide (z = 0) = false := by simpa using h0
 have n1 : (z != 0) = true := by simpa using h0
 have q1 : (z == 0) = false := by simpa using h0
 have CN : Hid (∀ W, Calls Tryz.prog 32 #[b.c.V, x.V, .int .i64 (b.ix + 1), .int .i64 n, .int .i64 m] W (Ans W (k, z))) := Lib.hid CN0
 clear CN0 h0
 go_enter Tryz.func14, Tryz.ntmps14
 go_upto_region 1 with fail
 obtain ⟨W, hW⟩ : ∃ W, (((w.alloc (.cells (b.cells o p) 37)).alloc (.cells x.cells 46)).alloc (.cells Z29 37)).alloc (.cells Z11 48) = W := ⟨_, rfl⟩
 rw [hW] at HT HA ⊢; clear hW
 generalize w.heap.size + 1 + 1 + 1 = r at HT ⊢
 generalize w.heap.size + 1 + 1 = q at HT ⊢
 generalize w.heap.size + 1 = s at HT ⊢
 generalize w.heap.size = g at HT ⊢
 have HC := Lib.hid HT.out.1.bk.kc; have k18 := HT.out.1.bk.k18; have HK := Lib.hid HT.out.2
 go_upto_region 2 with (first | ((with_reducible apply wpList_load_cpart (c := b.c) (h := HC.out)); exact rfl; exact rfl; exact rfl) | ((with_reducible apply wpList_load_kat (h := HK.out)); exact rfl; exact rfl; exact rfl) | (go_at_call 32; (with_reducible refine (CN.out _).mono ?_); rintro e w1 ⟨rfl, hb1⟩) | ((with_reducible apply wpList_store_knew (c := k)); exact rfl; exact rfl; exact rfl; exact rfl))
 have b2 : Below W.heap.size W (w1.alloc (.cells k.cells 46)) := hb1.trans ((below_new _ _).mono hb1.size)
 have hk2 := KAt.new w1 k
 obtain ⟨w2, hw2⟩ : ∃ w2, w1.alloc (.cells k.cells 46) = w2 := ⟨_, rfl⟩
 rw [hw2] at b2 hk2 ⊢; clear hw2
 have H2 := Lib.hid (HT.out.1.step b2); have A2 := Lib.hid (HA.out.step b2); have HK2 := Lib.hid hk2
 clear HT HA HC HK CN k18 hb1 b2 hk2
 generalize w1.heap.size = gk at *
 have HF := Lib.hid (fin3 (x := zg) H2.out.ans H2.out.an2 H2.out.bel H2.out.lo.1 H2.out.lo.2 (BAt.zero _) z)
 have HQ := Lib.hid H2.out.ans
 have HR := Lib.hid (H2.out.an2.farRow (ds := zb.cells none none) (At.ne H2.out.an2 H2.out.ans (by decide)))
 clear H2
 go_wp2_with (first | ((with_reducible apply wpList_build_zb); exact rfl; exact rfl) | ((with_reducible apply wpList_build_zg); exact rfl; exact rfl) | ((with_reducible apply wpList_store_bk (b := zb) (s := none) (t := none) (hq := HQ.out)); exact rfl; exact rfl; exact rfl; exact rfl) | ((with_reducible apply wpList_store_cg (c := zg) (hq := HR.out)); exact rfl; exact rfl; exact rfl; exact rfl))
 exact bodyPost_ret (results_three Tryz.results14 rfl rfl rfl HF.out.1 HF.out.2.1) rfl HF.out.2.2
set_option maxRecDepth 100000 in
set_option maxHeartbeats 1600000 in
theorem place_full {b : Bk} {o p : Option Addr} {x : K} {n m : Int} {w : World} (hb : BAt w b o p) (hok : b.Ok) (h0 : (newA b.c x (b.ix + 1) n m).2 = 0) (hf : b.live.length = b.rm) : Calls Tryz.prog 14 #[b.V o p, x.V, .int .i64 n, .int .i64 m] w (B3 w (placeB b x n m)) := by
 have HT := Lib.hid (YSt.new4 w b o p x)
 have HA := Lib.hid (hb.step HT.out.1.bel); clear hb
 have CN0 := fun W => newA_any b.c x (b.ix + 1) n m W
 have hw := hok.wrap
 have HOK := Lib.hid hok; clear hok
 rw [show placeB b x n m = (zb, zg, 5) from by unfold placeB; rw [if_neg (by rw [h0]; decide), if_pos hf]]
 generalize newA b.c x (b.ix + 1) n m = rr at *
 obtain ⟨k, z⟩ := rr
 obtain rfl : z = 0 := h0
 have CN : Hid (∀ W, Calls Tryz.prog 32 #[b.c.V, x.V, .int .i64 (b.ix + 1), .int .i64 n, .int .i64 m] W (Ans W (k, (0 : Int)))) := Lib.hid CN0
 clear CN0
 have hft : (b.live.length == b.rm) = true := by simpa using hf
 have HFT := Lib.hid hft; clear hf hft
 go_enter Tryz.func14, Tryz.ntmps14
 go_upto_region 1 with fail
 obtain ⟨W, hW⟩ : ∃ W, (((w.alloc (.cells (b.cells o p) 37)).alloc (.cells x.cells 46)).alloc (.cells Z29 37)).alloc (.cells Z11 48) = W := ⟨_, rfl⟩
 rw [hW] at HT HA ⊢; clear hW
 generalize w.heap.size + 1 + 1 + 1 = r at HT ⊢
 generalize w.heap.size + 1 + 1 = q at HT ⊢
 generalize w.heap.size + 1 = s at HT ⊢
 generalize w.heap.size = g at HT ⊢
 have HC := Lib.hid HT.out.1.bk.kc; have k18 := HT.out.1.bk.k18; have HK := Lib.hid HT.out.2
 go_upto_region 2 with (first | ((with_reducible apply wpList_load_cpart (c := b.c) (h := HC.out)); exact rfl; exact rfl; exact rfl) | ((with_reducible apply wpList_load_kat (h := HK.out)); exact rfl; exact rfl; exact rfl) | (go_at_call 32; (with_reducible refine (CN.out _).mono ?_); rintro e w1 ⟨rfl, hb1⟩) | ((with_reducible apply wpList_store_knew (c := k)); exact rfl; exact rfl; exact rfl; exact rfl))
 have b2 : Below W.heap.size W (w1.alloc (.cells k.cells 46)) := hb1.trans ((below_new _ _).mono hb1.size)
 have hk2 := KAt.new w1 k
 obtain ⟨w2, hw2⟩ : ∃ w2, w1.alloc (.cells k.cells 46) = w2 := ⟨_, rfl⟩
 rw [hw2] at b2 hk2 ⊢; clear hw2
 have H2 := Lib.hid (HT.out.1.step b2); have A2 := Lib.hid (HA.out.step b2); have HK2 := Lib.hid hk2
 clear HT HA HC HK CN k18 hb1 b2 hk2
 generalize w1.heap.size = gk at *
 have CF0 := isFull_any A2.out
 rw [HFT.out] at CF0
 have CF := Lib.hid CF0; clear CF0
 have HG := Lib.hid H2.out.bk
 go_upto_region 5 with (first | ((with_reducible apply wpList_load_bk (h := HG.out)); exact rfl; exact rfl; exact rfl) | (go_at_call 33; (with_reducible refine CF.out.mono ?_); rintro e w3 ⟨rfl, hb3⟩))
 have H3 := Lib.hid (H2.out.step hb3); clear H2 A2 HG CF hb3 HK2
 have HF := Lib.hid (fin3 (x := zg) H3.out.ans H3.out.an2 H3.out.bel H3.out.lo.1 H3.out.lo.2 (BAt.zero _) 5)
 have HQ := Lib.hid H3.out.ans
 have HR := Lib.hid (H3.out.an2.farRow (ds := zb.cells none none) (At.ne H3.out.an2 H3.out.ans (by decide)))
 clear H3
 go_wp2_with (first | ((with_reducible apply wpList_build_zb); exact rfl; exact rfl) | ((with_reducible apply wpList_build_zg); exact rfl; exact rfl) | ((with_reducible apply wpList_store_bk (b := zb) (s := none) (t := none) (hq := HQ.out)); exact rfl; exact rfl; exact rfl; exact rfl) | ((with_reducible apply wpList_store_cg (c := zg) (hq := HR.out)); exact rfl; exact rfl; exact rfl; exact rfl))
 exact bodyPost_ret (results_three Tryz.results14 rfl rfl rfl HF.out.1 HF.out.2.1) rfl HF.out.2.2
set_option maxRecDepth 100000 in
set_option maxHeartbeats 1600000 in
theorem place_ok {b : Bk} {o p : Option Addr} {x : K} {n m : Int} {w : World} (hb : BAt w b o p) (hok : b.Ok) (h0 : (newA b.c x (b.ix + 1) n m).2 = 0) (hf : b.live.length ≠ b.rm) : Calls Tryz.prog 14 #[b.V o p, x.V, .int .i64 n, .int .i64 m] w (B3 w (placeB b x n m)) := by
 have HT := Lib.hid (YSt.new4 w b o p x)
 have HA := Lib.hid (hb.step HT.out.1.bel); clear hb
 have CN0 := fun W => newA_any b.c x (b.ix + 1) n m W
 have hw := hok.wrap
 have HOK := Lib.hid hok; clear hok
 have hrm : 0 < b.rm := HOK.out.pos (nil_of_bad (newA_okc h0))
 rw [show placeB b x n m = changedB b ⟨0, (newA b.c x (b.ix + 1) n m).1, 0, 0⟩ from by unfold placeB; rw [if_neg (by rw [h0]; decide), if_neg hf]]
 generalize newA b.c x (b.ix + 1) n m = rr at *
 obtain ⟨k, z⟩ := rr
 obtain rfl : z = 0 := h0
 have CN : Hid (∀ W, Calls Tryz.prog 32 #[b.c.V, x.V, .int .i64 (b.ix + 1), .int .i64 n, .int .i64 m] W (Ans W (k, (0 : Int)))) := Lib.hid CN0
 clear CN0
 have hft : (b.live.length == b.rm) = false := by simpa using hf
 have HFT := Lib.hid hft; have HRM := Lib.hid hrm; clear hf hft hrm
 show Calls Tryz.prog 14 _ w (B3 w (changedB b ⟨0, k, 0, 0⟩))
 go_enter Tryz.func14, Tryz.ntmps14
 go_upto_region 1 with fail
 obtain ⟨W, hW⟩ : ∃ W, (((w.alloc (.cells (b.cells o p) 37)).alloc (.cells x.cells 46)).alloc (.cells Z29 37)).alloc (.cells Z11 48) = W := ⟨_, rfl⟩
 rw [hW] at HT HA ⊢; clear hW
 generalize w.heap.size + 1 + 1 + 1 = r at HT ⊢
 generalize w.heap.size + 1 + 1 = q at HT ⊢
 generalize w.heap.size + 1 = s at HT ⊢
 generalize w.heap.size = g at HT ⊢
 have HC := Lib.hid HT.out.1.bk.kc; have k18 := HT.out.1.bk.k18; have HK := Lib.hid HT.out.2
 go_upto_region 2 with (first | ((with_reducible apply wpList_load_cpart (c := b.c) (h := HC.out)); exact rfl; exact rfl; exact rfl) | ((with_reducible apply wpList_load_kat (h := HK.out)); exact rfl; exact rfl; exact rfl) | (go_at_call 32; (with_reducible refine (CN.out _).mono ?_); rintro e w1 ⟨rfl, hb1⟩) | ((with_reducible apply wpList_store_knew (c := k)); exact rfl; exact rfl; exact rfl; exact rfl))
 have b2 : Below W.heap.size W (w1.alloc (.cells k.cells 46)) := hb1.trans ((below_new _ _).mono hb1.size)
 have hk2 := KAt.new w1 k
 obtain ⟨w2, hw2⟩ : ∃ w2, w1.alloc (.cells k.cells 46) = w2 := ⟨_, rfl⟩
 rw [hw2] at b2 hk2 ⊢; clear hw2
 have H2 := Lib.hid (HT.out.1.step b2); have A2 := Lib.hid (HA.out.step b2); have HK2 := Lib.hid hk2
 clear HT HA HC HK CN k18 hb1 b2 hk2
 generalize w1.heap.size = gk at *
 have CF0 := isFull_any A2.out
 rw [HFT.out] at CF0
 have CF := Lib.hid CF0; clear CF0
 have HG := Lib.hid H2.out.bk
 go_upto_region 6 with (first | ((with_reducible apply wpList_load_bk (h := HG.out)); exact rfl; exact rfl; exact rfl) | (go_at_call 33; (with_reducible refine CF.out.mono ?_); rintro e w3 ⟨rfl, hb3⟩))
 have H3 := Lib.hid (H2.out.step hb3); have A3 := Lib.hid (A2.out.step hb3); have HK3 := Lib.hid (HK2.out.step hb3); clear H2 A2 HG CF hb3 HK2 hw
 have CC := Lib.hid (changed_any (x := ⟨0, k, 0, 0⟩) A3.out (.inl rfl) HRM.out HOK.out.ix)
 have HG := Lib.hid H3.out.bk
 go_wp2_with (first | ((with_reducible apply wpList_load_bk (h := HG.out)); exact rfl; exact rfl; exact rfl) | ((with_reducible apply wpList_load_kat (h := HK3.out)); exact rfl; exact rfl; exact rfl) | ((with_reducible apply wpList_build_ck (c := k)); exact rfl; exact rfl; exact rfl) | (go_at_call 34; (with_reducible refine CC.out.mono ?_)))
 rintro e w9 ⟨o9, p9, rfl, ha9, hb9⟩
 have H9 := Lib.hid (H3.out.step hb9); have A9 := Lib.hid ha9
 clear H3 A3 HG CC hb9 ha9
 generalize changedB b ⟨0, k, 0, 0⟩ = r9 at *
 obtain ⟨b9, x9, n9⟩ := r9
 have A9 : Hid (BAt w9 b9 o9 p9) := A9
 have HF := Lib.hid (fin3 (x := x9) H9.out.ans H9.out.an2 H9.out.bel H9.out.lo.1 H9.out.lo.2 A9.out n9)
 have HQ := Lib.hid H9.out.ans
 have HR := Lib.hid (H9.out.an2.farRow (ds := b9.cells o9 p9) (At.ne H9.out.an2 H9.out.ans (by decide)))
 clear H9 A9
 go_wp2_with (first | ((with_reducible apply wpList_store_bk (b := b9) (s := o9) (t := p9) (hq := HQ.out)); exact rfl; exact rfl; exact rfl; exact rfl) | ((with_reducible apply wpList_store_cg (c := x9) (hq := HR.out)); exact rfl; exact rfl; exact rfl; exact rfl))
 exact bodyPost_ret (results_three Tryz.results14 rfl rfl rfl HF.out.1 HF.out.2.1) rfl HF.out.2.2
theorem placeBk_any {b : Bk} {o p : Option Addr} {x : K} {n m : Int} {w : World} (hb : BAt w b o p) (hok : b.Ok) : Calls Tryz.prog 14 #[b.V o p, x.V, .int .i64 n, .int .i64 m] w (B3 w (placeB b x n m)) := by
 by_cases h0 : (newA b.c x (b.ix + 1) n m).2 = 0
 ·by_cases hf : b.live.length = b.rm
  ·exact place_full hb hok h0 hf
  ·exact place_ok hb hok h0 hf
 ·exact place_bad hb hok h0
set_option maxRecDepth 100000 in
set_option maxHeartbeats 1600000 in
theorem cancel_nil {b : Bk} {o p : Option Addr} (i n : Int) {w : World} (hb : BAt w b o p) (h0 : b.c.beq zc = true) : Calls Tryz.prog 15 #[b.V o p, .int .i64 i, .int .i64 n] w (B3 w (cancelB b i n)) := by
 have HT := Lib.hid (YSt.new3 w b o p)
 have HA := Lib.hid (hb.step HT.out.bel); clear hb
 have CI0 := fun W => isNone_any b o p W
 rw [h0] at CI0
 have CI := Lib.hid CI0; clear CI0
 rw [show cancelB b i n = (zb, zg, 3) from if_pos h0]
 clear h0
 go_enter Tryz.func15, Tryz.ntmps15
 go_upto_region 1 with fail
 obtain ⟨W, hW⟩ : ∃ W, ((w.alloc (.cells (b.cells o p) 37)).alloc (.cells Z29 37)).alloc (.cells Z11 48) = W := ⟨_, rfl⟩
 rw [hW] at HT HA ⊢; clear hW
 generalize w.heap.size + 1 + 1 = r at HT ⊢
 generalize w.heap.size + 1 = q at HT ⊢
 generalize w.heap.size = g at HT ⊢
 have HG := Lib.hid HT.out.bk
 go_upto_region 2 with (first | ((with_reducible apply wpList_load_bk (h := HG.out)); exact rfl; exact rfl; exact rfl) | (go_at_call 35; (with_reducible refine (CI.out _).mono ?_); rintro e w1 ⟨rfl, hb1⟩))
 have H1 := Lib.hid (HT.out.step hb1); have A1 := Lib.hid (HA.out.step hb1); clear HT HA HG CI hb1
 have HF := Lib.hid (fin3 (x := zg) H1.out.ans H1.out.an2 H1.out.bel H1.out.lo.1 H1.out.lo.2 (BAt.zero _) 3)
 have HQ := Lib.hid H1.out.ans
 have HR := Lib.hid (H1.out.an2.farRow (ds := zb.cells none none) (At.ne H1.out.an2 H1.out.ans (by decide)))
 clear H1
 go_wp2_with (first | ((with_reducible apply wpList_build_zb); exact rfl; exact rfl) | ((with_reducible apply wpList_build_zg); exact rfl; exact rfl) | ((with_reducible apply wpList_store_bk (b := zb) (s := none) (t := none) (hq := HQ.out)); exact rfl; exact rfl; exact rfl; exact rfl) | ((with_reducible apply wpList_store_cg (c := zg) (hq := HR.out)); exact rfl; exact rfl; exact rfl; exact rfl))
 exact bodyPost_ret (results_three Tryz.results15 rfl rfl rfl HF.out.1 HF.out.2.1) rfl HF.out.2.2
set_option maxRecDepth 100000 in
set_option maxHeartbeats 1600000 in
theorem cancel_lost {b : Bk} {o p : Option Addr} (i n : Int) {w : World} (hb : BAt w b o p) (h0 : b.c.beq zc = false) (hf : findB b i = none) : Calls Tryz.prog 15 #[b.V o p, .int .i64 i, .int .i64 n] w (B3 w (cancelB b i n)) := by
 have HT := Lib.hid (YSt.new3 w b o p)
 have HA := Lib.hid (hb.step HT.out.bel); clear hb
 have CI0 := fun W => isNone_any b o p W
 rw [h0] at CI0
 have CI := Lib.hid CI0; clear CI0
 rw [show cancelB b i n = (zb, zg, 6) from by unfold cancelB; rw [if_neg (by rw [h0]; decide), hf]]
 clear h0
 have HFI := Lib.hid hf; clear hf
 go_enter Tryz.func15, Tryz.ntmps15
 go_upto_region 1 with fail
 obtain ⟨W, hW⟩ : ∃ W, ((w.alloc (.cells (b.cells o p) 37)).alloc (.cells Z29 37)).alloc (.cells Z11 48) = W := ⟨_, rfl⟩
 rw [hW] at HT HA ⊢; clear hW
 generalize w.heap.size + 1 + 1 = r at HT ⊢
 generalize w.heap.size + 1 = q at HT ⊢
 generalize w.heap.size = g at HT ⊢
 have HG := Lib.hid HT.out.bk
 go_upto_region 3 with (first | ((with_reducible apply wpList_load_bk (h := HG.out)); exact rfl; exact rfl; exact rfl) | (go_at_call 35; (with_reducible refine (CI.out _).mono ?_); rintro e w1 ⟨rfl, hb1⟩))
 have H1 := Lib.hid (HT.out.step hb1); have A1 := Lib.hid (HA.out.step hb1); clear HT HA HG CI hb1
 have CF : Hid (Calls Tryz.prog 36 #[b.V o p, .int .i64 i] w1 (FPost w1 none)) := Lib.hid (by have h := findB_any i A1.out; rwa [HFI.out] at h)
 have HG := Lib.hid H1.out.bk
 go_upto_region 4 with (first | ((with_reducible apply wpList_load_bk (h := HG.out)); exact rfl; exact rfl; exact rfl) | (go_at_call 36; (with_reducible refine CF.out.mono ?_); rintro e w2 ⟨rfl, hb2⟩) | ((with_reducible apply wpList_store_knew (c := zk)); exact rfl; exact rfl; exact rfl; exact rfl))
 have b3 : Below w1.heap.size w1 (w2.alloc (.cells (zk).cells 46)) := hb2.trans ((below_new _ _).mono hb2.size)
 have hk3 := KAt.new w2 (zk)
 obtain ⟨w3, hw3⟩ : ∃ w3, w2.alloc (.cells (zk).cells 46) = w3 := ⟨_, rfl⟩
 rw [hw3] at b3 hk3 ⊢; clear hw3
 have H3 := Lib.hid (H1.out.step b3); have A3 := Lib.hid (A1.out.step b3); have HK3 := Lib.hid hk3
 clear H1 A1 HG CF hb2 b3 hk3
 generalize w2.heap.size = gk at *
 have HF := Lib.hid (fin3 (x := zg) H3.out.ans H3.out.an2 H3.out.bel H3.out.lo.1 H3.out.lo.2 (BAt.zero _) 6)
 have HQ := Lib.hid H3.out.ans
 have HR := Lib.hid (H3.out.an2.farRow (ds := zb.cells none none) (At.ne H3.out.an2 H3.out.ans (by decide)))
 clear H3
 go_wp2_with (first | ((with_reducible apply wpList_build_zb); exact rfl; exact rfl) | ((with_reducible apply wpList_build_zg); exact rfl; exact rfl) | ((with_reducible apply wpList_store_bk (b := zb) (s := none) (t := none) (hq := HQ.out)); exact rfl; exact rfl; exact rfl; exact rfl) | ((with_reducible apply wpList_store_cg (c := zg) (hq := HR.out)); exact rfl; exact rfl; exact rfl; exact rfl))
 exact bodyPost_ret (results_three Tryz.results15 rfl rfl rfl HF.out.1 HF.out.2.1) rfl HF.out.2.2
set_option maxRecDepth 100000 in
set_option maxHeartbeats 1600000 in
theorem cancel_owner {b : Bk} {o p : Option Addr} (i n : Int) {w : World} (hb : BAt w b o p) {x : K} (h0 : b.c.beq zc = false) (hf : findB b i = some x) (ho : x.own ≠ n) : Calls Tryz.prog 15 #[b.V o p, .int .i64 i, .int .i64 n] w (B3 w (cancelB b i n)) := by
 have HT := Lib.hid (YSt.new3 w b o p)
 have HA := Lib.hid (hb.step HT.out.bel); clear hb
 have CI0 := fun W => isNone_any b o p W
 rw [h0] at CI0
 have CI := Lib.hid CI0; clear CI0
 rw [show cancelB b i n = (zb, zg, 8) from by unfold cancelB; rw [if_neg (by rw [h0]; decide), hf]; exact if_pos ho]
 clear h0
 have d1 : decide (x.own = n) = false := by simpa using ho
 have n1 : (x.own != n) = true := by simpa using ho
 have q1 : (x.own == n) = false := by simpa using ho
 clear ho
 have HFI := Lib.hid hf; clear hf
 go_enter Tryz.func15, Tryz.ntmps15
 go_upto_region 1 with fail
 obtain ⟨W, hW⟩ : ∃ W, ((w.alloc (.cells (b.cells o p) 37)).alloc (.cells Z29 37)).alloc (.cells Z11 48) = W := ⟨_, rfl⟩
 rw [hW] at HT HA ⊢; clear hW
 generalize w.heap.size + 1 + 1 = r at HT ⊢
 generalize w.heap.size + 1 = q at HT ⊢
 generalize w.heap.size = g at HT ⊢
 have HG := Lib.hid HT.out.bk
 go_upto_region 3 with (first | ((with_reducible apply wpList_load_bk (h := HG.out)); exact rfl; exact rfl; exact rfl) | (go_at_call 35; (with_reducible refine (CI.out _).mono ?_); rintro e w1 ⟨rfl, hb1⟩))
 have H1 := Lib.hid (HT.out.step hb1); have A1 := Lib.hid (HA.out.step hb1); clear HT HA HG CI hb1
 have CF : Hid (Calls Tryz.prog 36 #[b.V o p, .int .i64 i] w1 (FPost w1 (some x))) := Lib.hid (by have h := findB_any i A1.out; rwa [HFI.out] at h)
 have HG := Lib.hid H1.out.bk
 go_upto_region 4 with (first | ((with_reducible apply wpList_load_bk (h := HG.out)); exact rfl; exact rfl; exact rfl) | (go_at_call 36; (with_reducible refine CF.out.mono ?_); rintro e w2 ⟨rfl, hb2⟩) | ((with_reducible apply wpList_store_knew (c := x)); exact rfl; exact rfl; exact rfl; exact rfl))
 have b3 : Below w1.heap.size w1 (w2.alloc (.cells (x).cells 46)) := hb2.trans ((below_new _ _).mono hb2.size)
 have hk3 := KAt.new w2 (x)
 obtain ⟨w3, hw3⟩ : ∃ w3, w2.alloc (.cells (x).cells 46) = w3 := ⟨_, rfl⟩
 rw [hw3] at b3 hk3 ⊢; clear hw3
 have H3 := Lib.hid (H1.out.step b3); have A3 := Lib.hid (A1.out.step b3); have HK3 := Lib.hid hk3
 clear H1 A1 HG CF hb2 b3 hk3
 generalize w2.heap.size = gk at *
 have k6 := HK3.out.get6
 clear A3 HK3
 go_upto_region 7 with fail
 have HF := Lib.hid (fin3 (x := zg) H3.out.ans H3.out.an2 H3.out.bel H3.out.lo.1 H3.out.lo.2 (BAt.zero _) 8)
 have HQ := Lib.hid H3.out.ans
 have HR := Lib.hid (H3.out.an2.farRow (ds := zb.cells none none) (At.ne H3.out.an2 H3.out.ans (by decide)))
 clear H3
 go_wp2_with (first | ((with_reducible apply wpList_build_zb); exact rfl; exact rfl) | ((with_reducible apply wpList_build_zg); exact rfl; exact rfl) | ((with_reducible apply wpList_store_bk (b := zb) (s := none) (t := none) (hq := HQ.out)); exact rfl; exact rfl; exact rfl; exact rfl) | ((with_reducible apply wpList_store_cg (c := zg) (hq := HR.out)); exact rfl; exact rfl; exact rfl; exact rfl))
 exact bodyPost_ret (results_three Tryz.results15 rfl rfl rfl HF.out.1 HF.out.2.1) rfl HF.out.2.2
set_option maxRecDepth 100000 in
set_option maxHeartbeats 1600000 in
theorem cancel_state {b : Bk} {o p : Option Addr} (i n : Int) {w : World} (hb : BAt w b o p) {x : K} (h0 : b.c.beq zc = false) (hf : findB b i = some x) (ho : x.own = n) (hc : (cancelK x).2 ≠ 0) : Calls Tryz.prog 15 #[b.V o p, .int .i64 i, .int .i64 n] w (B3 w (cancelB b i n)) := by
 have HT := Lib.hid (YSt.new3 w b o p)
 have HA := Lib.hid (hb.step HT.out.bel); clear hb
 have CI0 := fun W => isNone_any b o p W
 rw [h0] at CI0
 have CI := Lib.hid CI0; clear CI0
 rw [show cancelB b i n = (zb, zg, (cancelK x).2) from by unfold cancelB; rw [if_neg (by rw [h0]; decide), hf]; show (if x.own ≠ n then _ else _) = _; rw [if_neg (by simpa using ho), if_pos hc]]
 clear h0
 have d1 : decide (x.own = n) = true := by simpa using ho
 have n1 : (x.own != n) = false := by simpa using ho
 have q1 : (x.own == n) = true := by simpa using ho
 have CC0 := fun W => cancel_any x W
 generalize cancelK x = rr at *
 obtain ⟨k, z⟩ := rr
 have hc : z ≠ 0 := hc
 have d2 : decide (z = 0) = false := by simpa using hc
 have n2 : (z != 0) = true := by simpa using hc
 have q2 : (z == 0) = false := by simpa using hc
 have CC : Hid (∀ W, Calls Tryz.prog 37 #[x.V] W (Ans W (k, z))) := Lib.hid CC0
 clear CC0 ho hc
 have HFI := Lib.hid hf; clear hf
 go_enter Tryz.func15, Tryz.ntmps15
 go_upto_region 1 with fail
 obtain ⟨W, hW⟩ : ∃ W, ((w.alloc (.cells (b.cells o p) 37)).alloc (.cells Z29 37)).alloc (.cells Z11 48) = W := ⟨_, rfl⟩
 rw [hW] at HT HA ⊢; clear hW
 generalize w.heap.size + 1 + 1 = r at HT ⊢
 generalize w.heap.size + 1 = q at HT ⊢
 generalize w.heap.size = g at HT ⊢
 have HG := Lib.hid HT.out.bk
 go_upto_region 3 with (first | ((with_reducible apply wpList_load_bk (h := HG.out)); exact rfl; exact rfl; exact rfl) | (go_at_call 35; (with_reducible refine (CI.out _).mono ?_); rintro e w1 ⟨rfl, hb1⟩))
 have H1 := Lib.hid (HT.out.step hb1); have A1 := Lib.hid (HA.out.step hb1); clear HT HA HG CI hb1
 have CF : Hid (Calls Tryz.prog 36 #[b.V o p, .int .i64 i] w1 (FPost w1 (some x))) := Lib.hid (by have h := findB_any i A1.out; rwa [HFI.out] at h)
 have HG := Lib.hid H1.out.bk
 go_upto_region 4 with (first | ((with_reducible apply wpList_load_bk (h := HG.out)); exact rfl; exact rfl; exact rfl) | (go_at_call 36; (with_reducible refine CF.out.mono ?_); rintro e w2 ⟨rfl, hb2⟩) | ((with_reducible apply wpList_store_knew (c := x)); exact rfl; exact rfl; exact rfl; exact rfl))
 have b3 : Below w1.heap.size w1 (w2.alloc (.cells (x).cells 46)) := hb2.trans ((below_new _ _).mono hb2.size)
 have hk3 := KAt.new w2 (x)
 obtain ⟨w3, hw3⟩ : ∃ w3, w2.alloc (.cells (x).cells 46) = w3 := ⟨_, rfl⟩
 rw [hw3] at b3 hk3 ⊢; clear hw3
 have H3 := Lib.hid (H1.out.step b3); have A3 := Lib.hid (A1.out.step b3); have HK3 := Lib.hid hk3
 clear H1 A1 HG CF hb2 b3 hk3
 generalize w2.heap.size = gk at *
 have k6 := HK3.out.get6
 have HK := Lib.hid HK3.out
 go_upto_region 9 with (first | ((with_reducible apply wpList_load_kat (h := HK.out)); exact rfl; exact rfl; exact rfl) | (go_at_call 37; (with_reducible refine (CC.out _).mono ?_); rintro e w4 ⟨rfl, hb4⟩) | ((with_reducible apply wpList_store_knew (c := k)); exact rfl; exact rfl; exact rfl; exact rfl))
 have b5 : Below w3.heap.size w3 (w4.alloc (.cells (k).cells 46)) := hb4.trans ((below_new _ _).mono hb4.size)
 have hk5 := KAt.new w4 (k)
 obtain ⟨w5, hw5⟩ : ∃ w5, w4.alloc (.cells (k).cells 46) = w5 := ⟨_, rfl⟩
 rw [hw5] at b5 hk5 ⊢; clear hw5
 have H5 := Lib.hid (H3.out.step b5); have A5 := Lib.hid (A3.out.step b5); have HK5 := Lib.hid hk5
 clear H3 A3 HK HK3 CC hb4 b5 hk5 k6
 generalize w4.heap.size = g5 at *
 have HF := Lib.hid (fin3 (x := zg) H5.out.ans H5.out.an2 H5.out.bel H5.out.lo.1 H5.out.lo.2 (BAt.zero _) z)
 have HQ := Lib.hid H5.out.ans
 have HR := Lib.hid (H5.out.an2.farRow (ds := zb.cells none none) (At.ne H5.out.an2 H5.out.ans (by decide)))
 clear H5
 go_wp2_with (first | ((with_reducible apply wpList_build_zb); exact rfl; exact rfl) | ((with_reducible apply wpList_build_zg); exact rfl; exact rfl) | ((with_reducible apply wpList_store_bk (b := zb) (s := none) (t := none) (hq := HQ.out)); exact rfl; exact rfl; exact rfl; exact rfl) | ((with_reducible apply wpList_store_cg (c := zg) (hq := HR.out)); exact rfl; exact rfl; exact rfl; exact rfl))
 exact bodyPost_ret (results_three Tryz.results15 rfl rfl rfl HF.out.1 HF.out.2.1) rfl HF.out.2.2
set_option maxRecDepth 100000 in
set_option maxHeartbeats 1600000 in
theorem cancel_ok {b : Bk} {o p : Option Addr} (i n : Int) {w : World} (hb : BAt w b o p) {x : K} (hok : b.Ok) (h0 : b.c.beq zc = false) (hf : findB b i = some x) (ho : x.own = n) (hc : (cancelK x).2 = 0) : Calls Tryz.prog 15 #[b.V o p, .int .i64 i, .int .i64 n] w (B3 w (cancelB b i n)) := by
 have HT := Lib.hid (YSt.new3 w b o p)
 have HA := Lib.hid (hb.step HT.out.bel); clear hb
 have CI0 := fun W => isNone_any b o p W
 rw [h0] at CI0
 have CI := Lib.hid CI0; clear CI0
 rw [show cancelB b i n = changedB b ⟨0, (cancelK x).1, 0, 0⟩ from by unfold cancelB; rw [if_neg (by rw [h0]; decide), hf]; show (if x.own ≠ n then _ else _) = _; rw [if_neg (by simpa using ho), if_neg (by rw [hc]; decide)]]
 have HRM := Lib.hid (hok.pos h0); have HOK := Lib.hid hok
 clear h0 hok
 have d1 : decide (x.own = n) = true := by simpa using ho
 have n1 : (x.own != n) = false := by simpa using ho
 have q1 : (x.own == n) = true := by simpa using ho
 have CC0 := fun W => cancel_any x W
 generalize cancelK x = rr at *
 obtain ⟨k, z⟩ := rr
 obtain rfl : z = 0 := hc
 have CC : Hid (∀ W, Calls Tryz.prog 37 #[x.V] W (Ans W (k, (0 : Int)))) := Lib.hid CC0
 clear CC0 ho
 show Calls Tryz.prog 15 _ w (B3 w (changedB b ⟨0, k, 0, 0⟩))
 have HFI := Lib.hid hf; clear hf
 go_enter Tryz.func15, Tryz.ntmps15
 go_upto_region 1 with fail
 obtain ⟨W, hW⟩ : ∃ W, ((w.alloc (.cells (b.cells o p) 37)).alloc (.cells Z29 37)).alloc (.cells Z11 48) = W := ⟨_, rfl⟩
 rw [hW] at HT HA ⊢; clear hW
 generalize w.heap.size + 1 + 1 = r at HT ⊢
 generalize w.heap.size + 1 = q at HT ⊢
 generalize w.heap.size = g at HT ⊢
 have HG := Lib.hid HT.out.bk
 go_upto_region 3 with (first | ((with_reducible apply wpList_load_bk (h := HG.out)); exact rfl; exact rfl; exact rfl) | (go_at_call 35; (with_reducible refine (CI.out _).mono ?_); rintro e w1 ⟨rfl, hb1⟩))
 have H1 := Lib.hid (HT.out.step hb1); have A1 := Lib.hid (HA.out.step hb1); clear HT HA HG CI hb1
 have CF : Hid (Calls Tryz.prog 36 #[b.V o p, .int .i64 i] w1 (FPost w1 (some x))) := Lib.hid (by have h := findB_any i A1.out; rwa [HFI.out] at h)
 have HG := Lib.hid H1.out.bk
 go_upto_region 4 with (first | ((with_reducible apply wpList_load_bk (h := HG.out)); exact rfl; exact rfl; exact rfl) | (go_at_call 36; (with_reducible refine CF.out.mono ?_); rintro e w2 ⟨rfl, hb2⟩) | ((with_reducible apply wpList_store_knew (c := x)); exact rfl; exact rfl; exact rfl; exact rfl))
 have b3 : Below w1.heap.size w1 (w2.alloc (.cells (x).cells 46)) := hb2.trans ((below_new _ _).mono hb2.size)
 have hk3 := KAt.new w2 (x)
 obtain ⟨w3, hw3⟩ : ∃ w3, w2.alloc (.cells (x).cells 46) = w3 := ⟨_, rfl⟩
 rw [hw3] at b3 hk3 ⊢; clear hw3
 have H3 := Lib.hid (H1.out.step b3); have A3 := Lib.hid (A1.out.step b3); have HK3 := Lib.hid hk3
 clear H1 A1 HG CF hb2 b3 hk3
 generalize w2.heap.size = gk at *
 have k6 := HK3.out.get6
 have HK := Lib.hid HK3.out
 go_upto_region 9 with (first | ((with_reducible apply wpList_load_kat (h := HK.out)); exact rfl; exact rfl; exact rfl) | (go_at_call 37; (with_reducible refine (CC.out _).mono ?_); rintro e w4 ⟨rfl, hb4⟩) | ((with_reducible apply wpList_store_knew (c := k)); exact rfl; exact rfl; exact rfl; exact rfl))
 have b5 : Below w3.heap.size w3 (w4.alloc (.cells (k).cells 46)) := hb4.trans ((below_new _ _).mono hb4.size)
 have hk5 := KAt.new w4 (k)
 obtain ⟨w5, hw5⟩ : ∃ w5, w4.alloc (.cells (k).cells 46) = w5 := ⟨_, rfl⟩
 rw [hw5] at b5 hk5 ⊢; clear hw5
 have H5 := Lib.hid (H3.out.step b5); have A5 := Lib.hid (A3.out.step b5); have HK5 := Lib.hid hk5
 clear H3 A3 HK HK3 CC hb4 b5 hk5 k6
 generalize w4.heap.size = g5 at *
 go_upto_region 11 with fail
 have CC := Lib.hid (changed_any (x := ⟨0, k, 0, 0⟩) A5.out (.inl rfl) HRM.out HOK.out.ix)
 have HG := Lib.hid H5.out.bk
 go_wp2_with (first | ((with_reducible apply wpList_load_bk (h := HG.out)); exact rfl; exact rfl; exact rfl) | ((with_reducible apply wpList_load_kat (h := HK5.out)); exact rfl; exact rfl; exact rfl) | ((with_reducible apply wpList_build_ck (c := k)); exact rfl; exact rfl; exact rfl) | (go_at_call 34; (with_reducible refine CC.out.mono ?_)))
 rintro e w9 ⟨o9, p9, rfl, ha9, hb9⟩
 have H9 := Lib.hid (H5.out.step hb9); have A9 := Lib.hid ha9
 clear H5 A5 HG CC hb9 ha9
 generalize changedB b ⟨0, k, 0, 0⟩ = r9 at *
 obtain ⟨b9, x9, n9⟩ := r9
 have A9 : Hid (BAt w9 b9 o9 p9) := A9
 have HF := Lib.hid (fin3 (x := x9) H9.out.ans H9.out.an2 H9.out.bel H9.out.lo.1 H9.out.lo.2 A9.out n9)
 have HQ := Lib.hid H9.out.ans
 have HR := Lib.hid (H9.out.an2.farRow (ds := b9.cells o9 p9) (At.ne H9.out.an2 H9.out.ans (by decide)))
 clear H9 A9
 go_wp2_with (first | ((with_reducible apply wpList_store_bk (b := b9) (s := o9) (t := p9) (hq := HQ.out)); exact rfl; exact rfl; exact rfl; exact rfl) | ((with_reducible apply wpList_store_cg (c := x9) (hq := HR.out)); exact rfl; exact rfl; exact rfl; exact rfl))
 exact bodyPost_ret (results_three Tryz.results15 rfl rfl rfl HF.out.1 HF.out.2.1) rfl HF.out.2.2
theorem cancelBk_any {b : Bk} {o p : Option Addr} (i n : Int) {w : World} (hb : BAt w b o p) (hok : b.Ok) : Calls Tryz.prog 15 #[b.V o p, .int .i64 i, .int .i64 n] w (B3 w (cancelB b i n)) := by
 cases h0 : b.c.beq zc
 ·cases hf : findB b i with
  | none => exact cancel_lost i n hb h0 hf
  | some x =>
   by_cases ho : x.own = n
   ·by_cases hc : (cancelK x).2 = 0
    ·exact cancel_ok i n hb hok h0 hf ho hc
    ·exact cancel_state i n hb h0 hf ho hc
   ·exact cancel_owner i n hb h0 hf ho
 ·exact cancel_nil i n hb h0
set_option maxRecDepth 100000 in
set_option maxHeartbeats 1600000 in
theorem set_nil {b : Bk} {o p : Option Addr} (i n : Int) {w : World} (hb : BAt w b o p) (h0 : b.c.beq zc = true) : Calls Tryz.prog 16 #[b.V o p, .int .i64 i, .int .i64 n] w (B3 w (setB b i n)) := by
 have HT := Lib.hid (YSt.new3 w b o p)
 have HA := Lib.hid (hb.step HT.out.bel); clear hb
 have CI0 := fun W => isNone_any b o p W
 rw [h0] at CI0
 have CI := Lib.hid CI0; clear CI0
 rw [show setB b i n = (zb, zg, 3) from if_pos h0]
 clear h0
 go_enter Tryz.func16, Tryz.ntmps16
 go_upto_region 1 with fail
 obtain ⟨W, hW⟩ : ∃ W, ((w.alloc (.cells (b.cells o p) 37)).alloc (.cells Z29 37)).alloc (.cells Z11 48) = W := ⟨_, rfl⟩
 rw [hW] at HT HA ⊢; clear hW
 generalize w.heap.size + 1 + 1 = r at HT ⊢
 generalize w.heap.size + 1 = q at HT ⊢
 generalize w.heap.size = g at HT ⊢
 have HG := Lib.hid HT.out.bk
 go_upto_region 2 with (first | ((with_reducible apply wpList_load_bk (h := HG.out)); exact rfl; exact rfl; exact rfl) | (go_at_call 35; (with_reducible refine (CI.out _).mono ?_); rintro e w1 ⟨rfl, hb1⟩))
 have H1 := Lib.hid (HT.out.step hb1); have A1 := Lib.hid (HA.out.step hb1); clear HT HA HG CI hb1
 have HF := Lib.hid (fin3 (x := zg) H1.out.ans H1.out.an2 H1.out.bel H1.out.lo.1 H1.out.lo.2 (BAt.zero _) 3)
 have HQ := Lib.hid H1.out.ans
 have HR := Lib.hid (H1.out.an2.farRow (ds := zb.cells none none) (At.ne H1.out.an2 H1.out.ans (by decide)))
 clear H1
 go_wp2_with (first | ((with_reducible apply wpList_build_zb); exact rfl; exact rfl) | ((with_reducible apply wpList_build_zg); exact rfl; exact rfl) | ((with_reducible apply wpList_store_bk (b := zb) (s := none) (t := none) (hq := HQ.out)); exact rfl; exact rfl; exact rfl; exact rfl) | ((with_reducible apply wpList_store_cg (c := zg) (hq := HR.out)); exact rfl; exact rfl; exact rfl; exact rfl))
 exact bodyPost_ret (results_three Tryz.results16 rfl rfl rfl HF.out.1 HF.out.2.1) rfl HF.out.2.2
set_option maxRecDepth 100000 in
set_option maxHeartbeats 1600000 in
theorem set_arg {b : Bk} {o p : Option Addr} (i n : Int) {w : World} (hb : BAt w b o p) (h0 : b.c.beq zc = false) (hf : haveB b i n = false) : Calls Tryz.prog 16 #[b.V o p, .int .i64 i, .int .i64 n] w (B3 w (setB b i n)) := by
 have HT := Lib.hid (YSt.new3 w b o p)
 have HA := Lib.hid (hb.step HT.out.bel); clear hb
 have CI0 := fun W => isNone_any b o p W
 rw [h0] at CI0
 have CI := Lib.hid CI0; clear CI0
 rw [show setB b i n = (zb, zg, 1) from by unfold setB; rw [if_neg (by rw [h0]; decide), if_pos hf]]
 clear h0
 have HFI := Lib.hid hf; clear hf
 go_enter Tryz.func16, Tryz.ntmps16
 go_upto_region 1 with fail
 obtain ⟨W, hW⟩ : ∃ W, ((w.alloc (.cells (b.cells o p) 37)).alloc (.cells Z29 37)).alloc (.cells Z11 48) = W := ⟨_, rfl⟩
 rw [hW] at HT HA ⊢; clear hW
 generalize w.heap.size + 1 + 1 = r at HT ⊢
 generalize w.heap.size + 1 = q at HT ⊢
 generalize w.heap.size = g at HT ⊢
 have HG := Lib.hid HT.out.bk
 go_upto_region 3 with (first | ((with_reducible apply wpList_load_bk (h := HG.out)); exact rfl; exact rfl; exact rfl) | (go_at_call 35; (with_reducible refine (CI.out _).mono ?_); rintro e w1 ⟨rfl, hb1⟩))
 have H1 := Lib.hid (HT.out.step hb1); have A1 := Lib.hid (HA.out.step hb1); clear HT HA HG CI hb1
 have CF : Hid (Calls Tryz.prog 38 #[b.V o p, .int .i64 i, .int .i64 n] w1 (Yes w1 false)) := Lib.hid (by have h := canHave_any (b := b) (o := o) (p := p) i n w1; have e : haveB b i n = false := HFI.out; unfold haveB at e; rwa [e] at h)
 have HG := Lib.hid H1.out.bk
 go_upto_region 4 with (first | ((with_reducible apply wpList_load_bk (h := HG.out)); exact rfl; exact rfl; exact rfl) | (go_at_call 38; (with_reducible refine CF.out.mono ?_); rintro e w2 ⟨rfl, hb2⟩))
 have H3 := Lib.hid (H1.out.step hb2); have A3 := Lib.hid (A1.out.step hb2)
 clear H1 A1 HG CF hb2
 clear A3
 have HF := Lib.hid (fin3 (x := zg) H3.out.ans H3.out.an2 H3.out.bel H3.out.lo.1 H3.out.lo.2 (BAt.zero _) 1)
 have HQ := Lib.hid H3.out.ans
 have HR := Lib.hid (H3.out.an2.farRow (ds := zb.cells none none) (At.ne H3.out.an2 H3.out.ans (by decide)))
 clear H3
 go_wp2_with (first | ((with_reducible apply wpList_build_zb); exact rfl; exact rfl) | ((with_reducible apply wpList_build_zg); exact rfl; exact rfl) | ((with_reducible apply wpList_store_bk (b := zb) (s := none) (t := none) (hq := HQ.out)); exact rfl; exact rfl; exact rfl; exact rfl) | ((with_reducible apply wpList_store_cg (c := zg) (hq := HR.out)); exact rfl; exact rfl; exact rfl; exact rfl))
 exact bodyPost_ret (results_three Tryz.results16 rfl rfl rfl HF.out.1 HF.out.2.1) rfl HF.out.2.2
theorem built_cm (n m : Int) : Tryz.prog.built 48 [(2, .int .i64 n), (3, .int .i64 m)] = some (⟨0, zk, n, m⟩ : Cg).cells := by kernel_rfl
theorem wpList_build_cm {ops : Array Oper} {rest : List Oper} {o : Oper} {a : Act} {w : World} {Q : Exit → Act → World → Prop} (x y : Tmp) (ho : o.op = .build 48 #[(2, .tmp x), (3, .tmp y)]) (hgd : o.guard = none) {n m : Int} (e1 : a.eval (.tmp x) = .int .i64 n) (e2 : a.eval (.tmp y) = .int .i64 m) (k : wpList Tryz.prog ops Q rest (a.put o.dst (⟨0, zk, n, m⟩ : Cg).V) w) : wpList Tryz.prog ops Q (o :: rest) a w :=
 wpList_build_as hgd 48 _ ho (⟨0, zk, n, m⟩ : Cg).cells (by simp only [List.map_toArray, List.map_cons, List.map_nil, e1, e2]; exact built_cm n m) k
set_option maxRecDepth 100000 in
set_option maxHeartbeats 1600000 in
theorem set_ok {b : Bk} {o p : Option Addr} (i n : Int) {w : World} (hb : BAt w b o p) (hok : b.Ok) (h0 : b.c.beq zc = false) (hf : haveB b i n = true) : Calls Tryz.prog 16 #[b.V o p, .int .i64 i, .int .i64 n] w (B3 w (setB b i n)) := by
 have HT := Lib.hid (YSt.new3 w b o p)
 have HA := Lib.hid (hb.step HT.out.bel); clear hb
 have CI0 := fun W => isNone_any b o p W
 rw [h0] at CI0
 have CI := Lib.hid CI0; clear CI0
 rw [show setB b i n = changedB b ⟨0, zk, i, n⟩ from by unfold setB; rw [if_neg (by rw [h0]; decide), if_neg (by rw [hf]; decide)]]
 have HRM := Lib.hid (hok.pos h0); have HOK := Lib.hid hok; have HCR := Lib.hid (haveB_car hf)
 clear h0 hok
 have HFI := Lib.hid hf; clear hf
 go_enter Tryz.func16, Tryz.ntmps16
 go_upto_region 1 with fail
 obtain ⟨W, hW⟩ : ∃ W, ((w.alloc (.cells (b.cells o p) 37)).alloc (.cells Z29 37)).alloc (.cells Z11 48) = W := ⟨_, rfl⟩
 rw [hW] at HT HA ⊢; clear hW
 generalize w.heap.size + 1 + 1 = r at HT ⊢
 generalize w.heap.size + 1 = q at HT ⊢
 generalize w.heap.size = g at HT ⊢
 have HG := Lib.hid HT.out.bk
 go_upto_region 3 with (first | ((with_reducible apply wpList_load_bk (h := HG.out)); exact rfl; exact rfl; exact rfl) | (go_at_call 35; (with_reducible refine (CI.out _).mono ?_); rintro e w1 ⟨rfl, hb1⟩))
 have H1 := Lib.hid (HT.out.step hb1); have A1 := Lib.hid (HA.out.step hb1); clear HT HA HG CI hb1
 have CF : Hid (Calls Tryz.prog 38 #[b.V o p, .int .i64 i, .int .i64 n] w1 (Yes w1 true)) := Lib.hid (by have h := canHave_any (b := b) (o := o) (p := p) i n w1; have e : haveB b i n = true := HFI.out; unfold haveB at e; rwa [e] at h)
 have HG := Lib.hid H1.out.bk
 go_upto_region 5 with (first | ((with_reducible apply wpList_load_bk (h := HG.out)); exact rfl; exact rfl; exact rfl) | (go_at_call 38; (with_reducible refine CF.out.mono ?_); rintro e w2 ⟨rfl, hb2⟩))
 have H3 := Lib.hid (H1.out.step hb2); have A3 := Lib.hid (A1.out.step hb2)
 clear H1 A1 HG CF hb2
 have CC := Lib.hid (changed_any (x := ⟨0, zk, i, n⟩) A3.out (.inr HCR.out) HRM.out HOK.out.ix)
 have HG := Lib.hid H3.out.bk
 go_wp2_with (first | ((with_reducible apply wpList_load_bk (h := HG.out)); exact rfl; exact rfl; exact rfl) | ((with_reducible apply wpList_build_cm (n := i) (m := n)); exact rfl; exact rfl; exact rfl; exact rfl) | (go_at_call 34; (with_reducible refine CC.out.mono ?_)))
 rintro e w9 ⟨o9, p9, rfl, ha9, hb9⟩
 have H9 := Lib.hid (H3.out.step hb9); have A9 := Lib.hid ha9
 clear H3 A3 HG CC hb9 ha9
 generalize changedB b ⟨0, zk, i, n⟩ = r9 at *
 obtain ⟨b9, x9, n9⟩ := r9
 have A9 : Hid (BAt w9 b9 o9 p9) := A9
 have HF := Lib.hid (fin3 (x := x9) H9.out.ans H9.out.an2 H9.out.bel H9.out.lo.1 H9.out.lo.2 A9.out n9)
 have HQ := Lib.hid H9.out.ans
 have HR := Lib.hid (H9.out.an2.farRow (ds := b9.cells o9 p9) (At.ne H9.out.an2 H9.out.ans (by decide)))
 clear H9 A9
 go_wp2_with (first | ((with_reducible apply wpList_store_bk (b := b9) (s := o9) (t := p9) (hq := HQ.out)); exact rfl; exact rfl; exact rfl; exact rfl) | ((with_reducible apply wpList_store_cg (c := x9) (hq := HR.out)); exact rfl; exact rfl; exact rfl; exact rfl))
 exact bodyPost_ret (results_three Tryz.results16 rfl rfl rfl HF.out.1 HF.out.2.1) rfl HF.out.2.2
theorem setBk_any {b : Bk} {o p : Option Addr} (i n : Int) {w : World} (hb : BAt w b o p) (hok : b.Ok) : Calls Tryz.prog 16 #[b.V o p, .int .i64 i, .int .i64 n] w (B3 w (setB b i n)) := by
 cases h0 : b.c.beq zc
 ·cases hf : haveB b i n
  ·exact set_arg i n hb h0 hf
  ·exact set_ok i n hb hok h0 hf
 ·exact set_nil i n hb h0
end Go.Proofs.YtplapoenhohliaaGreat
