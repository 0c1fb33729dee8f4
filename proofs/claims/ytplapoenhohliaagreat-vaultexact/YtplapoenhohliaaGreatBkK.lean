import Derived.Test.YtplapoenhohliaaGreatBkJ
namespace Go.Proofs.YtplapoenhohliaaGreat
open Go.RowKit Go.Lib
open Sh.Plain (KV get put del Rise)
set_option linter.unusedVariables false
set_option linter.unusedSimpArgs false
theorem fin2 {w W : World} {q : Nat} {b z : Bk} {o p o' p' : Option Addr} (hq : BkAt W q z o' p') (hb : Below w.heap.size w W) (l1 : w.heap.size ≤ q) (ha : BAt W b o p) (n : Int) :
  BkAt (W.setRow q (b.cells o p)) q b o p ∧ B2 w (b, n) (.returned (.tuple #[b.V o p, .int .i64 n])) (W.setRow q (b.cells o p)) :=
 ⟨At.setRow hq _, o, p, rfl, ha.farRow hq (by decide) (by decide), setRow_below hb l1 _⟩
theorem isPl_car {b : Bk} {x : Cg} (h : isPlB b x = true) : x.car = 0 := by
 unfold isPlB at h
 rw [Bool.and_eq_true] at h
 rw [Cg.beq_iff.1 h.2]
theorem isOn_car {b : Bk} {x : Cg} (h : isOnB b x = true) : x.car = 0 := by
 unfold isOnB at h
 cases hg : get x.k.id b.live with
 | none => rw [hg] at h; cases h
 | some a =>
  rw [hg] at h
  have h : (x.beq ⟨x.ix, x.k, 0, 0⟩ && mayK b.c a x.k) = true := h
  rw [Bool.and_eq_true] at h
  rw [Cg.beq_iff.1 h.1]
theorem isSet_car {b : Bk} {x : Cg} (h : isSetB b x = true) : 1 ≤ x.car ∧ x.car ≤ 4 := by
 unfold isSetB at h
 rw [Bool.and_eq_true] at h
 exact haveB_car h.2
theorem car_of {b : Bk} {x : Cg} (h : (isPlB b x || isOnB b x || isSetB b x) = true) : x.car = 0 ∨ 1 ≤ x.car ∧ x.car ≤ 4 := by
 rw [Bool.or_eq_true, Bool.or_eq_true] at h
 rcases h with (h | h) | h
 ·exact .inl (isPl_car h)
 ·exact .inl (isOn_car h)
 ·exact .inr (isSet_car h)
set_option maxRecDepth 100000 in
set_option maxHeartbeats 1600000 in
theorem apply_nil {b : Bk} {o p : Option Addr} {x : Cg} {w : World} (hb : BAt w b o p) (hok : b.Ok) (h0 : b.c.beq zc = true) : Calls Tryz.prog 44 #[b.V o p, x.V] w (B2 w (applyB b x)) := by
 have HT := Lib.hid (WSt.new w b o p x)
 have HA := Lib.hid (hb.step HT.out.bel); clear hb
 have hw := hok.wrap
 rw [show applyB b x = (zb, 3) from if_pos h0]
 clear hok
 have H0N := Lib.hid h0; clear h0
 go_enter Tryz.func44, Tryz.ntmps44
 go_upto_region 1 with fail
 obtain ⟨W0, hW⟩ : ∃ W0, ((w.alloc (.cells (b.cells o p) 37)).alloc (.cells x.cells 48)).alloc (.cells Z29 37) = W0 := ⟨_, rfl⟩
 rw [hW] at HT HA ⊢; clear hW
 generalize w.heap.size + 1 + 1 = q at HT ⊢
 generalize w.heap.size + 1 = s at HT ⊢
 generalize w.heap.size = g at HT ⊢
 have H0 := Lib.hid HT.out; have A0 := Lib.hid HA.out; clear HT HA
 have HG := Lib.hid H0.out.bk
 have HX : Hid (CgAt W0 s x) := Lib.hid H0.out.cg
 have j0 := HX.out.k0; have k18 := H0.out.bk.k18
 have CC := Lib.hid ((by have h := isNone_any b o p W0; rwa [H0N.out] at h : Calls Tryz.prog 35 #[b.V o p] W0 (Yes W0 true)))
 go_wp2_with (first | ((with_reducible apply wpList_load_bk (h := HG.out)); exact rfl; exact rfl; exact rfl) | ((with_reducible apply wpList_load_cg (h := HX.out)); exact rfl; exact rfl; exact rfl) | (go_at_call 35; (with_reducible refine CC.out.mono ?_)))
 rintro e W1 ⟨rfl, hb1⟩
 have H1 := Lib.hid (H0.out.step hb1); have A1 := Lib.hid (A0.out.step hb1)
 clear H0 A0 HG HX CC hb1 j0 k18
 have HF := Lib.hid (fin2 H1.out.ans H1.out.bel H1.out.lo.2.2 (BAt.zero _) 3)
 have HQ := Lib.hid H1.out.ans
 have HX : Hid (CgAt W1 s x) := Lib.hid H1.out.cg
 have j0 := HX.out.k0; have k18 := H1.out.bk.k18
 clear H1
 go_wp2_with (first | ((with_reducible apply wpList_build_zb); exact rfl; exact rfl) | ((with_reducible apply wpList_store_bk (b := zb) (s := none) (t := none) (hq := HQ.out)); exact rfl; exact rfl; exact rfl; exact rfl))
 exact bodyPost_ret (results_two Tryz.results44 rfl rfl HF.out.1) rfl HF.out.2
set_option maxRecDepth 100000 in
set_option maxHeartbeats 1600000 in
theorem apply_index {b : Bk} {o p : Option Addr} {x : Cg} {w : World} (hb : BAt w b o p) (hok : b.Ok) (h0 : b.c.beq zc = false) (hi : x.ix ≠ b.ix + 1) : Calls Tryz.prog 44 #[b.V o p, x.V] w (B2 w (applyB b x)) := by
 have HT := Lib.hid (WSt.new w b o p x)
 have HA := Lib.hid (hb.step HT.out.bel); clear hb
 have hw := hok.wrap
 rw [show applyB b x = (zb, 1) from by unfold applyB; rw [if_neg (by rw [h0]; decide), if_pos (.inl hi)]]
 obtain ⟨t, ht⟩ : ∃ t, isPlB b x = t := ⟨_, rfl⟩
 have HPL := Lib.hid ht; clear ht
 have d1 : decide (x.ix = b.ix + 1) = false := by simpa using hi
 have n1 : (x.ix != b.ix + 1) = true := by simpa using hi
 have q1 : (x.ix == b.ix + 1) = false := by simpa using hi
 clear hi hok
 have H0N := Lib.hid h0; clear h0
 go_enter Tryz.func44, Tryz.ntmps44
 go_upto_region 1 with fail
 obtain ⟨W0, hW⟩ : ∃ W0, ((w.alloc (.cells (b.cells o p) 37)).alloc (.cells x.cells 48)).alloc (.cells Z29 37) = W0 := ⟨_, rfl⟩
 rw [hW] at HT HA ⊢; clear hW
 generalize w.heap.size + 1 + 1 = q at HT ⊢
 generalize w.heap.size + 1 = s at HT ⊢
 generalize w.heap.size = g at HT ⊢
 have H0 := Lib.hid HT.out; have A0 := Lib.hid HA.out; clear HT HA
 have HG := Lib.hid H0.out.bk
 have HX : Hid (CgAt W0 s x) := Lib.hid H0.out.cg
 have j0 := HX.out.k0; have k18 := H0.out.bk.k18
 have CC := Lib.hid ((by have h := isNone_any b o p W0; rwa [H0N.out] at h : Calls Tryz.prog 35 #[b.V o p] W0 (Yes W0 false)))
 go_wp2_with (first | ((with_reducible apply wpList_load_bk (h := HG.out)); exact rfl; exact rfl; exact rfl) | ((with_reducible apply wpList_load_cg (h := HX.out)); exact rfl; exact rfl; exact rfl) | (go_at_call 35; (with_reducible refine CC.out.mono ?_)))
 rintro e W1 ⟨rfl, hb1⟩
 have H1 := Lib.hid (H0.out.step hb1); have A1 := Lib.hid (A0.out.step hb1)
 clear H0 A0 HG HX CC hb1 j0 k18
 have HG := Lib.hid H1.out.bk
 have HX : Hid (CgAt W1 s x) := Lib.hid H1.out.cg
 have j0 := HX.out.k0; have k18 := H1.out.bk.k18
 have CC := Lib.hid ((by have h := isPlaced_any (x := x) A1.out; rwa [HPL.out] at h : Calls Tryz.prog 77 #[b.V o p, x.V] W1 (Yes W1 t)))
 go_wp2_with (first | ((with_reducible apply wpList_load_bk (h := HG.out)); exact rfl; exact rfl; exact rfl) | ((with_reducible apply wpList_load_cg (h := HX.out)); exact rfl; exact rfl; exact rfl) | (go_at_call 77; (with_reducible refine CC.out.mono ?_)))
 rintro e W2 ⟨rfl, hb2⟩
 have H2 := Lib.hid (H1.out.step hb2); have A2 := Lib.hid (A1.out.step hb2)
 clear H1 A1 HG HX CC hb2 j0 k18
 have HF := Lib.hid (fin2 H2.out.ans H2.out.bel H2.out.lo.2.2 (BAt.zero _) 1)
 have HQ := Lib.hid H2.out.ans
 have HX : Hid (CgAt W2 s x) := Lib.hid H2.out.cg
 have j0 := HX.out.k0; have k18 := H2.out.bk.k18
 clear H2
 go_wp2_with (first | ((with_reducible apply wpList_build_zb); exact rfl; exact rfl) | ((with_reducible apply wpList_store_bk (b := zb) (s := none) (t := none) (hq := HQ.out)); exact rfl; exact rfl; exact rfl; exact rfl))
 exact bodyPost_ret (results_two Tryz.results44 rfl rfl HF.out.1) rfl HF.out.2
set_option maxRecDepth 100000 in
set_option maxHeartbeats 1600000 in
theorem apply_none {b : Bk} {o p : Option Addr} {x : Cg} {w : World} (hb : BAt w b o p) (hok : b.Ok) (h0 : b.c.beq zc = false) (hi : x.ix = b.ix + 1) (h1 : isPlB b x = false) (h2 : isOnB b x = false) (h3 : isSetB b x = false) : Calls Tryz.prog 44 #[b.V o p, x.V] w (B2 w (applyB b x)) := by
 have HT := Lib.hid (WSt.new w b o p x)
 have HA := Lib.hid (hb.step HT.out.bel); clear hb
 have hw := hok.wrap
 rw [show applyB b x = (zb, 1) from by unfold applyB; rw [if_neg (by rw [h0]; decide), if_pos (.inr (by rw [h1, h2, h3]; rfl))]]
 have HPL := Lib.hid h1; have HON := Lib.hid h2; have HST := Lib.hid h3; clear h1 h2 h3
 have d1 : decide (x.ix = b.ix + 1) = true := by simpa using hi
 have n1 : (x.ix != b.ix + 1) = false := by simpa using hi
 have q1 : (x.ix == b.ix + 1) = true := by simpa using hi
 clear hi hok
 have H0N := Lib.hid h0; clear h0
 go_enter Tryz.func44, Tryz.ntmps44
 go_upto_region 1 with fail
 obtain ⟨W0, hW⟩ : ∃ W0, ((w.alloc (.cells (b.cells o p) 37)).alloc (.cells x.cells 48)).alloc (.cells Z29 37) = W0 := ⟨_, rfl⟩
 rw [hW] at HT HA ⊢; clear hW
 generalize w.heap.size + 1 + 1 = q at HT ⊢
 generalize w.heap.size + 1 = s at HT ⊢
 generalize w.heap.size = g at HT ⊢
 have H0 := Lib.hid HT.out; have A0 := Lib.hid HA.out; clear HT HA
 have HG := Lib.hid H0.out.bk
 have HX : Hid (CgAt W0 s x) := Lib.hid H0.out.cg
 have j0 := HX.out.k0; have k18 := H0.out.bk.k18
 have CC := Lib.hid ((by have h := isNone_any b o p W0; rwa [H0N.out] at h : Calls Tryz.prog 35 #[b.V o p] W0 (Yes W0 false)))
 go_wp2_with (first | ((with_reducible apply wpList_load_bk (h := HG.out)); exact rfl; exact rfl; exact rfl) | ((with_reducible apply wpList_load_cg (h := HX.out)); exact rfl; exact rfl; exact rfl) | (go_at_call 35; (with_reducible refine CC.out.mono ?_)))
 rintro e W1 ⟨rfl, hb1⟩
 have H1 := Lib.hid (H0.out.step hb1); have A1 := Lib.hid (A0.out.step hb1)
 clear H0 A0 HG HX CC hb1 j0 k18
 have HG := Lib.hid H1.out.bk
 have HX : Hid (CgAt W1 s x) := Lib.hid H1.out.cg
 have j0 := HX.out.k0; have k18 := H1.out.bk.k18
 have CC := Lib.hid ((by have h := isPlaced_any (x := x) A1.out; rwa [HPL.out] at h : Calls Tryz.prog 77 #[b.V o p, x.V] W1 (Yes W1 false)))
 go_wp2_with (first | ((with_reducible apply wpList_load_bk (h := HG.out)); exact rfl; exact rfl; exact rfl) | ((with_reducible apply wpList_load_cg (h := HX.out)); exact rfl; exact rfl; exact rfl) | (go_at_call 77; (with_reducible refine CC.out.mono ?_)))
 rintro e W2 ⟨rfl, hb2⟩
 have H2 := Lib.hid (H1.out.step hb2); have A2 := Lib.hid (A1.out.step hb2)
 clear H1 A1 HG HX CC hb2 j0 k18
 have HG := Lib.hid H2.out.bk
 have HX : Hid (CgAt W2 s x) := Lib.hid H2.out.cg
 have j0 := HX.out.k0; have k18 := H2.out.bk.k18
 have CC := Lib.hid ((by have h := isOn_any (x := x) A2.out; rwa [HON.out] at h : Calls Tryz.prog 78 #[b.V o p, x.V] W2 (Yes W2 false)))
 go_wp2_with (first | ((with_reducible apply wpList_load_bk (h := HG.out)); exact rfl; exact rfl; exact rfl) | ((with_reducible apply wpList_load_cg (h := HX.out)); exact rfl; exact rfl; exact rfl) | (go_at_call 78; (with_reducible refine CC.out.mono ?_)))
 rintro e W3 ⟨rfl, hb3⟩
 have H3 := Lib.hid (H2.out.step hb3); have A3 := Lib.hid (A2.out.step hb3)
 clear H2 A2 HG HX CC hb3 j0 k18
 have HG := Lib.hid H3.out.bk
 have HX : Hid (CgAt W3 s x) := Lib.hid H3.out.cg
 have j0 := HX.out.k0; have k18 := H3.out.bk.k18
 have CC := Lib.hid ((by have h := isSet_any (x := x) A3.out; rwa [HST.out] at h : Calls Tryz.prog 79 #[b.V o p, x.V] W3 (Yes W3 false)))
 go_wp2_with (first | ((with_reducible apply wpList_load_bk (h := HG.out)); exact rfl; exact rfl; exact rfl) | ((with_reducible apply wpList_load_cg (h := HX.out)); exact rfl; exact rfl; exact rfl) | (go_at_call 79; (with_reducible refine CC.out.mono ?_)))
 rintro e W4 ⟨rfl, hb4⟩
 have H4 := Lib.hid (H3.out.step hb4); have A4 := Lib.hid (A3.out.step hb4)
 clear H3 A3 HG HX CC hb4 j0 k18
 have HF := Lib.hid (fin2 H4.out.ans H4.out.bel H4.out.lo.2.2 (BAt.zero _) 1)
 have HQ := Lib.hid H4.out.ans
 have HX : Hid (CgAt W4 s x) := Lib.hid H4.out.cg
 have j0 := HX.out.k0; have k18 := H4.out.bk.k18
 clear H4
 go_wp2_with (first | ((with_reducible apply wpList_build_zb); exact rfl; exact rfl) | ((with_reducible apply wpList_store_bk (b := zb) (s := none) (t := none) (hq := HQ.out)); exact rfl; exact rfl; exact rfl; exact rfl))
 exact bodyPost_ret (results_two Tryz.results44 rfl rfl HF.out.1) rfl HF.out.2
set_option maxRecDepth 100000 in
set_option maxHeartbeats 1600000 in
theorem apply_placed_full {b : Bk} {o p : Option Addr} {x : Cg} {w : World} (hb : BAt w b o p) (hok : b.Ok) (h0 : b.c.beq zc = false) (hi : x.ix = b.ix + 1) (h1 : isPlB b x = true) (hf : b.live.length = b.rm) : Calls Tryz.prog 44 #[b.V o p, x.V] w (B2 w (applyB b x)) := by
 have HT := Lib.hid (WSt.new w b o p x)
 have HA := Lib.hid (hb.step HT.out.bel); clear hb
 have hw := hok.wrap
 rw [show applyB b x = (zb, 5) from by unfold applyB; rw [if_neg (by rw [h0]; decide), if_neg (fun h => h.elim (fun h => h hi) (fun h => by rw [show (isPlB b x || isOnB b x || isSetB b x) = true from by rw [h1]; simp] at h; cases h)), if_pos (.inl ⟨h1, hf⟩)]]
 have hft : (b.live.length == b.rm) = true := by simpa using hf
 have HFU := Lib.hid hft; clear hf hft
 have HCAR := Lib.hid (car_of (b := b) (x := x) (by rw [h1]; simp)); have HRM := Lib.hid (hok.pos h0)
 have HPL := Lib.hid h1; clear h1
 have d1 : decide (x.ix = b.ix + 1) = true := by simpa using hi
 have n1 : (x.ix != b.ix + 1) = false := by simpa using hi
 have q1 : (x.ix == b.ix + 1) = true := by simpa using hi
 clear hi hok
 have H0N := Lib.hid h0; clear h0
 go_enter Tryz.func44, Tryz.ntmps44
 go_upto_region 1 with fail
 obtain ⟨W0, hW⟩ : ∃ W0, ((w.alloc (.cells (b.cells o p) 37)).alloc (.cells x.cells 48)).alloc (.cells Z29 37) = W0 := ⟨_, rfl⟩
 rw [hW] at HT HA ⊢; clear hW
 generalize w.heap.size + 1 + 1 = q at HT ⊢
 generalize w.heap.size + 1 = s at HT ⊢
 generalize w.heap.size = g at HT ⊢
 have H0 := Lib.hid HT.out; have A0 := Lib.hid HA.out; clear HT HA
 have HG := Lib.hid H0.out.bk
 have HX : Hid (CgAt W0 s x) := Lib.hid H0.out.cg
 have j0 := HX.out.k0; have k18 := H0.out.bk.k18
 have CC := Lib.hid ((by have h := isNone_any b o p W0; rwa [H0N.out] at h : Calls Tryz.prog 35 #[b.V o p] W0 (Yes W0 false)))
 go_wp2_with (first | ((with_reducible apply wpList_load_bk (h := HG.out)); exact rfl; exact rfl; exact rfl) | ((with_reducible apply wpList_load_cg (h := HX.out)); exact rfl; exact rfl; exact rfl) | (go_at_call 35; (with_reducible refine CC.out.mono ?_)))
 rintro e W1 ⟨rfl, hb1⟩
 have H1 := Lib.hid (H0.out.step hb1); have A1 := Lib.hid (A0.out.step hb1)
 clear H0 A0 HG HX CC hb1 j0 k18
 have HG := Lib.hid H1.out.bk
 have HX : Hid (CgAt W1 s x) := Lib.hid H1.out.cg
 have j0 := HX.out.k0; have k18 := H1.out.bk.k18
 have CC := Lib.hid ((by have h := isPlaced_any (x := x) A1.out; rwa [HPL.out] at h : Calls Tryz.prog 77 #[b.V o p, x.V] W1 (Yes W1 true)))
 go_wp2_with (first | ((with_reducible apply wpList_load_bk (h := HG.out)); exact rfl; exact rfl; exact rfl) | ((with_reducible apply wpList_load_cg (h := HX.out)); exact rfl; exact rfl; exact rfl) | (go_at_call 77; (with_reducible refine CC.out.mono ?_)))
 rintro e W2 ⟨rfl, hb2⟩
 have H2 := Lib.hid (H1.out.step hb2); have A2 := Lib.hid (A1.out.step hb2)
 clear H1 A1 HG HX CC hb2 j0 k18
 have HG := Lib.hid H2.out.bk
 have HX : Hid (CgAt W2 s x) := Lib.hid H2.out.cg
 have j0 := HX.out.k0; have k18 := H2.out.bk.k18
 have CC := Lib.hid ((by have h := isFull_any A2.out; rwa [HFU.out] at h : Calls Tryz.prog 33 #[b.V o p] W2 (Yes W2 true)))
 go_wp2_with (first | ((with_reducible apply wpList_load_bk (h := HG.out)); exact rfl; exact rfl; exact rfl) | ((with_reducible apply wpList_load_cg (h := HX.out)); exact rfl; exact rfl; exact rfl) | (go_at_call 33; (with_reducible refine CC.out.mono ?_)))
 rintro e W3 ⟨rfl, hb3⟩
 have H3 := Lib.hid (H2.out.step hb3); have A3 := Lib.hid (A2.out.step hb3)
 clear H2 A2 HG HX CC hb3 j0 k18
 have HF := Lib.hid (fin2 H3.out.ans H3.out.bel H3.out.lo.2.2 (BAt.zero _) 5)
 have HQ := Lib.hid H3.out.ans
 have HX : Hid (CgAt W3 s x) := Lib.hid H3.out.cg
 have j0 := HX.out.k0; have k18 := H3.out.bk.k18
 clear H3
 go_wp2_with (first | ((with_reducible apply wpList_build_zb); exact rfl; exact rfl) | ((with_reducible apply wpList_store_bk (b := zb) (s := none) (t := none) (hq := HQ.out)); exact rfl; exact rfl; exact rfl; exact rfl))
 exact bodyPost_ret (results_two Tryz.results44 rfl rfl HF.out.1) rfl HF.out.2
set_option maxRecDepth 100000 in
set_option maxHeartbeats 1600000 in
theorem apply_placed_over {b : Bk} {o p : Option Addr} {x : Cg} {w : World} (hb : BAt w b o p) (hok : b.Ok) (h0 : b.c.beq zc = false) (hi : x.ix = b.ix + 1) (h1 : isPlB b x = true) (hf : b.live.length ≠ b.rm) (ho : b.ix = top) : Calls Tryz.prog 44 #[b.V o p, x.V] w (B2 w (applyB b x)) := by
 have HT := Lib.hid (WSt.new w b o p x)
 have HA := Lib.hid (hb.step HT.out.bel); clear hb
 have hw := hok.wrap
 rw [show applyB b x = (zb, 5) from by unfold applyB; rw [if_neg (by rw [h0]; decide), if_neg (fun h => h.elim (fun h => h hi) (fun h => by rw [show (isPlB b x || isOnB b x || isSetB b x) = true from by rw [h1]; simp] at h; cases h)), if_pos (.inr ho)]]
 have hft : (b.live.length == b.rm) = false := by simpa using hf
 have HFU := Lib.hid hft; clear hf hft
 have hot : (b.ix == top) = true := by simpa using ho
 have HOV := Lib.hid hot; clear ho hot
 have HCAR := Lib.hid (car_of (b := b) (x := x) (by rw [h1]; simp)); have HRM := Lib.hid (hok.pos h0)
 have HPL := Lib.hid h1; clear h1
 have d1 : decide (x.ix = b.ix + 1) = true := by simpa using hi
 have n1 : (x.ix != b.ix + 1) = false := by simpa using hi
 have q1 : (x.ix == b.ix + 1) = true := by simpa using hi
 clear hi hok
 have H0N := Lib.hid h0; clear h0
 go_enter Tryz.func44, Tryz.ntmps44
 go_upto_region 1 with fail
 obtain ⟨W0, hW⟩ : ∃ W0, ((w.alloc (.cells (b.cells o p) 37)).alloc (.cells x.cells 48)).alloc (.cells Z29 37) = W0 := ⟨_, rfl⟩
 rw [hW] at HT HA ⊢; clear hW
 generalize w.heap.size + 1 + 1 = q at HT ⊢
 generalize w.heap.size + 1 = s at HT ⊢
 generalize w.heap.size = g at HT ⊢
 have H0 := Lib.hid HT.out; have A0 := Lib.hid HA.out; clear HT HA
 have HG := Lib.hid H0.out.bk
 have HX : Hid (CgAt W0 s x) := Lib.hid H0.out.cg
 have j0 := HX.out.k0; have k18 := H0.out.bk.k18
 have CC := Lib.hid ((by have h := isNone_any b o p W0; rwa [H0N.out] at h : Calls Tryz.prog 35 #[b.V o p] W0 (Yes W0 false)))
 go_wp2_with (first | ((with_reducible apply wpList_load_bk (h := HG.out)); exact rfl; exact rfl; exact rfl) | ((with_reducible apply wpList_load_cg (h := HX.out)); exact rfl; exact rfl; exact rfl) | (go_at_call 35; (with_reducible refine CC.out.mono ?_)))
 rintro e W1 ⟨rfl, hb1⟩
 have H1 := Lib.hid (H0.out.step hb1); have A1 := Lib.hid (A0.out.step hb1)
 clear H0 A0 HG HX CC hb1 j0 k18
 have HG := Lib.hid H1.out.bk
 have HX : Hid (CgAt W1 s x) := Lib.hid H1.out.cg
 have j0 := HX.out.k0; have k18 := H1.out.bk.k18
 have CC := Lib.hid ((by have h := isPlaced_any (x := x) A1.out; rwa [HPL.out] at h : Calls Tryz.prog 77 #[b.V o p, x.V] W1 (Yes W1 true)))
 go_wp2_with (first | ((with_reducible apply wpList_load_bk (h := HG.out)); exact rfl; exact rfl; exact rfl) | ((with_reducible apply wpList_load_cg (h := HX.out)); exact rfl; exact rfl; exact rfl) | (go_at_call 77; (with_reducible refine CC.out.mono ?_)))
 rintro e W2 ⟨rfl, hb2⟩
 have H2 := Lib.hid (H1.out.step hb2); have A2 := Lib.hid (A1.out.step hb2)
 clear H1 A1 HG HX CC hb2 j0 k18
 have HG := Lib.hid H2.out.bk
 have HX : Hid (CgAt W2 s x) := Lib.hid H2.out.cg
 have j0 := HX.out.k0; have k18 := H2.out.bk.k18
 have CC := Lib.hid ((by have h := isFull_any A2.out; rwa [HFU.out] at h : Calls Tryz.prog 33 #[b.V o p] W2 (Yes W2 false)))
 go_wp2_with (first | ((with_reducible apply wpList_load_bk (h := HG.out)); exact rfl; exact rfl; exact rfl) | ((with_reducible apply wpList_load_cg (h := HX.out)); exact rfl; exact rfl; exact rfl) | (go_at_call 33; (with_reducible refine CC.out.mono ?_)))
 rintro e W3 ⟨rfl, hb3⟩
 have H3 := Lib.hid (H2.out.step hb3); have A3 := Lib.hid (A2.out.step hb3)
 clear H2 A2 HG HX CC hb3 j0 k18
 have HG := Lib.hid H3.out.bk
 have HX : Hid (CgAt W3 s x) := Lib.hid H3.out.cg
 have j0 := HX.out.k0; have k18 := H3.out.bk.k18
 have CC := Lib.hid ((by have h := isOver_any b o p W3; rwa [HOV.out] at h : Calls Tryz.prog 51 #[b.V o p] W3 (Yes W3 true)))
 go_wp2_with (first | ((with_reducible apply wpList_load_bk (h := HG.out)); exact rfl; exact rfl; exact rfl) | ((with_reducible apply wpList_load_cg (h := HX.out)); exact rfl; exact rfl; exact rfl) | (go_at_call 51; (with_reducible refine CC.out.mono ?_)))
 rintro e W4 ⟨rfl, hb4⟩
 have H4 := Lib.hid (H3.out.step hb4); have A4 := Lib.hid (A3.out.step hb4)
 clear H3 A3 HG HX CC hb4 j0 k18
 have HF := Lib.hid (fin2 H4.out.ans H4.out.bel H4.out.lo.2.2 (BAt.zero _) 5)
 have HQ := Lib.hid H4.out.ans
 have HX : Hid (CgAt W4 s x) := Lib.hid H4.out.cg
 have j0 := HX.out.k0; have k18 := H4.out.bk.k18
 clear H4
 go_wp2_with (first | ((with_reducible apply wpList_build_zb); exact rfl; exact rfl) | ((with_reducible apply wpList_store_bk (b := zb) (s := none) (t := none) (hq := HQ.out)); exact rfl; exact rfl; exact rfl; exact rfl))
 exact bodyPost_ret (results_two Tryz.results44 rfl rfl HF.out.1) rfl HF.out.2
set_option maxRecDepth 100000 in
set_option maxHeartbeats 1600000 in
theorem apply_placed {b : Bk} {o p : Option Addr} {x : Cg} {w : World} (hb : BAt w b o p) (hok : b.Ok) (h0 : b.c.beq zc = false) (hi : x.ix = b.ix + 1) (h1 : isPlB b x = true) (hf : b.live.length ≠ b.rm) (ho : b.ix ≠ top) : Calls Tryz.prog 44 #[b.V o p, x.V] w (B2 w (applyB b x)) := by
 have HT := Lib.hid (WSt.new w b o p x)
 have HA := Lib.hid (hb.step HT.out.bel); clear hb
 have hw := hok.wrap
 rw [show applyB b x = (withB b x, 0) from by unfold applyB; rw [if_neg (by rw [h0]; decide), if_neg (fun h => h.elim (fun h => h hi) (fun h => by rw [show (isPlB b x || isOnB b x || isSetB b x) = true from by rw [h1]; simp] at h; cases h)), if_neg (fun h => h.elim (fun h => hf h.2) (fun h => ho h))]]
 have hft : (b.live.length == b.rm) = false := by simpa using hf
 have HFU := Lib.hid hft; clear hf hft
 have hot : (b.ix == top) = false := by simpa using ho
 have HOV := Lib.hid hot; clear ho hot
 have HCAR := Lib.hid (car_of (b := b) (x := x) (by rw [h1]; simp)); have HRM := Lib.hid (hok.pos h0)
 have HPL := Lib.hid h1; clear h1
 have d1 : decide (x.ix = b.ix + 1) = true := by simpa using hi
 have n1 : (x.ix != b.ix + 1) = false := by simpa using hi
 have q1 : (x.ix == b.ix + 1) = true := by simpa using hi
 clear hi hok
 have H0N := Lib.hid h0; clear h0
 go_enter Tryz.func44, Tryz.ntmps44
 go_upto_region 1 with fail
 obtain ⟨W0, hW⟩ : ∃ W0, ((w.alloc (.cells (b.cells o p) 37)).alloc (.cells x.cells 48)).alloc (.cells Z29 37) = W0 := ⟨_, rfl⟩
 rw [hW] at HT HA ⊢; clear hW
 generalize w.heap.size + 1 + 1 = q at HT ⊢
 generalize w.heap.size + 1 = s at HT ⊢
 generalize w.heap.size = g at HT ⊢
 have H0 := Lib.hid HT.out; have A0 := Lib.hid HA.out; clear HT HA
 have HG := Lib.hid H0.out.bk
 have HX : Hid (CgAt W0 s x) := Lib.hid H0.out.cg
 have j0 := HX.out.k0; have k18 := H0.out.bk.k18
 have CC := Lib.hid ((by have h := isNone_any b o p W0; rwa [H0N.out] at h : Calls Tryz.prog 35 #[b.V o p] W0 (Yes W0 false)))
 go_wp2_with (first | ((with_reducible apply wpList_load_bk (h := HG.out)); exact rfl; exact rfl; exact rfl) | ((with_reducible apply wpList_load_cg (h := HX.out)); exact rfl; exact rfl; exact rfl) | (go_at_call 35; (with_reducible refine CC.out.mono ?_)))
 rintro e W1 ⟨rfl, hb1⟩
 have H1 := Lib.hid (H0.out.step hb1); have A1 := Lib.hid (A0.out.step hb1)
 clear H0 A0 HG HX CC hb1 j0 k18
 have HG := Lib.hid H1.out.bk
 have HX : Hid (CgAt W1 s x) := Lib.hid H1.out.cg
 have j0 := HX.out.k0; have k18 := H1.out.bk.k18
 have CC := Lib.hid ((by have h := isPlaced_any (x := x) A1.out; rwa [HPL.out] at h : Calls Tryz.prog 77 #[b.V o p, x.V] W1 (Yes W1 true)))
 go_wp2_with (first | ((with_reducible apply wpList_load_bk (h := HG.out)); exact rfl; exact rfl; exact rfl) | ((with_reducible apply wpList_load_cg (h := HX.out)); exact rfl; exact rfl; exact rfl) | (go_at_call 77; (with_reducible refine CC.out.mono ?_)))
 rintro e W2 ⟨rfl, hb2⟩
 have H2 := Lib.hid (H1.out.step hb2); have A2 := Lib.hid (A1.out.step hb2)
 clear H1 A1 HG HX CC hb2 j0 k18
 have HG := Lib.hid H2.out.bk
 have HX : Hid (CgAt W2 s x) := Lib.hid H2.out.cg
 have j0 := HX.out.k0; have k18 := H2.out.bk.k18
 have CC := Lib.hid ((by have h := isFull_any A2.out; rwa [HFU.out] at h : Calls Tryz.prog 33 #[b.V o p] W2 (Yes W2 false)))
 go_wp2_with (first | ((with_reducible apply wpList_load_bk (h := HG.out)); exact rfl; exact rfl; exact rfl) | ((with_reducible apply wpList_load_cg (h := HX.out)); exact rfl; exact rfl; exact rfl) | (go_at_call 33; (with_reducible refine CC.out.mono ?_)))
 rintro e W3 ⟨rfl, hb3⟩
 have H3 := Lib.hid (H2.out.step hb3); have A3 := Lib.hid (A2.out.step hb3)
 clear H2 A2 HG HX CC hb3 j0 k18
 have HG := Lib.hid H3.out.bk
 have HX : Hid (CgAt W3 s x) := Lib.hid H3.out.cg
 have j0 := HX.out.k0; have k18 := H3.out.bk.k18
 have CC := Lib.hid ((by have h := isOver_any b o p W3; rwa [HOV.out] at h : Calls Tryz.prog 51 #[b.V o p] W3 (Yes W3 false)))
 go_wp2_with (first | ((with_reducible apply wpList_load_bk (h := HG.out)); exact rfl; exact rfl; exact rfl) | ((with_reducible apply wpList_load_cg (h := HX.out)); exact rfl; exact rfl; exact rfl) | (go_at_call 51; (with_reducible refine CC.out.mono ?_)))
 rintro e W4 ⟨rfl, hb4⟩
 have H4 := Lib.hid (H3.out.step hb4); have A4 := Lib.hid (A3.out.step hb4)
 clear H3 A3 HG HX CC hb4 j0 k18
 have HG := Lib.hid H4.out.bk
 have HX : Hid (CgAt W4 s x) := Lib.hid H4.out.cg
 have CC := Lib.hid (with_any A4.out HCAR.out HRM.out)
 go_wp2_with (first | ((with_reducible apply wpList_load_bk (h := HG.out)); exact rfl; exact rfl; exact rfl) | ((with_reducible apply wpList_load_cg (h := HX.out)); exact rfl; exact rfl; exact rfl) | (go_at_call 52; (with_reducible refine CC.out.mono ?_)))
 rintro e w9 ⟨o9, p9, rfl, ha9, hb9⟩
 have H9 := Lib.hid (H4.out.step hb9)
 have HF := Lib.hid (fin2 H9.out.ans H9.out.bel H9.out.lo.2.2 ha9 0)
 have HQ := Lib.hid H9.out.ans
 clear H4 A4 HG HX CC hb9 ha9 H9
 generalize withB b x = b9 at *
 go_wp2_with ((with_reducible apply wpList_store_bk (b := b9) (s := o9) (t := p9) (hq := HQ.out)); exact rfl; exact rfl; exact rfl; exact rfl)
 exact bodyPost_ret (results_two Tryz.results44 rfl rfl HF.out.1) rfl HF.out.2
set_option maxRecDepth 100000 in
set_option maxHeartbeats 1600000 in
theorem apply_on_over {b : Bk} {o p : Option Addr} {x : Cg} {w : World} (hb : BAt w b o p) (hok : b.Ok) (h0 : b.c.beq zc = false) (hi : x.ix = b.ix + 1) (h1 : isPlB b x = false) (h2 : isOnB b x = true) (ho : b.ix = top) : Calls Tryz.prog 44 #[b.V o p, x.V] w (B2 w (applyB b x)) := by
 have HT := Lib.hid (WSt.new w b o p x)
 have HA := Lib.hid (hb.step HT.out.bel); clear hb
 have hw := hok.wrap
 rw [show applyB b x = (zb, 5) from by unfold applyB; rw [if_neg (by rw [h0]; decide), if_neg (fun h => h.elim (fun h => h hi) (fun h => by rw [show (isPlB b x || isOnB b x || isSetB b x) = true from by rw [h1, h2]; simp] at h; cases h)), if_pos (.inr ho)]]
 have hot : (b.ix == top) = true := by simpa using ho
 have HOV := Lib.hid hot; clear ho hot
 have HCAR := Lib.hid (car_of (b := b) (x := x) (by rw [h1, h2]; simp)); have HRM := Lib.hid (hok.pos h0)
 have HPL := Lib.hid h1; have HON := Lib.hid h2; clear h1 h2
 have d1 : decide (x.ix = b.ix + 1) = true := by simpa using hi
 have n1 : (x.ix != b.ix + 1) = false := by simpa using hi
 have q1 : (x.ix == b.ix + 1) = true := by simpa using hi
 clear hi hok
 have H0N := Lib.hid h0; clear h0
 go_enter Tryz.func44, Tryz.ntmps44
 go_upto_region 1 with fail
 obtain ⟨W0, hW⟩ : ∃ W0, ((w.alloc (.cells (b.cells o p) 37)).alloc (.cells x.cells 48)).alloc (.cells Z29 37) = W0 := ⟨_, rfl⟩
 rw [hW] at HT HA ⊢; clear hW
 generalize w.heap.size + 1 + 1 = q at HT ⊢
 generalize w.heap.size + 1 = s at HT ⊢
 generalize w.heap.size = g at HT ⊢
 have H0 := Lib.hid HT.out; have A0 := Lib.hid HA.out; clear HT HA
 have HG := Lib.hid H0.out.bk
 have HX : Hid (CgAt W0 s x) := Lib.hid H0.out.cg
 have j0 := HX.out.k0; have k18 := H0.out.bk.k18
 have CC := Lib.hid ((by have h := isNone_any b o p W0; rwa [H0N.out] at h : Calls Tryz.prog 35 #[b.V o p] W0 (Yes W0 false)))
 go_wp2_with (first | ((with_reducible apply wpList_load_bk (h := HG.out)); exact rfl; exact rfl; exact rfl) | ((with_reducible apply wpList_load_cg (h := HX.out)); exact rfl; exact rfl; exact rfl) | (go_at_call 35; (with_reducible refine CC.out.mono ?_)))
 rintro e W1 ⟨rfl, hb1⟩
 have H1 := Lib.hid (H0.out.step hb1); have A1 := Lib.hid (A0.out.step hb1)
 clear H0 A0 HG HX CC hb1 j0 k18
 have HG := Lib.hid H1.out.bk
 have HX : Hid (CgAt W1 s x) := Lib.hid H1.out.cg
 have j0 := HX.out.k0; have k18 := H1.out.bk.k18
 have CC := Lib.hid ((by have h := isPlaced_any (x := x) A1.out; rwa [HPL.out] at h : Calls Tryz.prog 77 #[b.V o p, x.V] W1 (Yes W1 false)))
 go_wp2_with (first | ((with_reducible apply wpList_load_bk (h := HG.out)); exact rfl; exact rfl; exact rfl) | ((with_reducible apply wpList_load_cg (h := HX.out)); exact rfl; exact rfl; exact rfl) | (go_at_call 77; (with_reducible refine CC.out.mono ?_)))
 rintro e W2 ⟨rfl, hb2⟩
 have H2 := Lib.hid (H1.out.step hb2); have A2 := Lib.hid (A1.out.step hb2)
 clear H1 A1 HG HX CC hb2 j0 k18
 have HG := Lib.hid H2.out.bk
 have HX : Hid (CgAt W2 s x) := Lib.hid H2.out.cg
 have j0 := HX.out.k0; have k18 := H2.out.bk.k18
 have CC := Lib.hid ((by have h := isOn_any (x := x) A2.out; rwa [HON.out] at h : Calls Tryz.prog 78 #[b.V o p, x.V] W2 (Yes W2 true)))
 go_wp2_with (first | ((with_reducible apply wpList_load_bk (h := HG.out)); exact rfl; exact rfl; exact rfl) | ((with_reducible apply wpList_load_cg (h := HX.out)); exact rfl; exact rfl; exact rfl) | (go_at_call 78; (with_reducible refine CC.out.mono ?_)))
 rintro e W3 ⟨rfl, hb3⟩
 have H3 := Lib.hid (H2.out.step hb3); have A3 := Lib.hid (A2.out.step hb3)
 clear H2 A2 HG HX CC hb3 j0 k18
 have HG := Lib.hid H3.out.bk
 have HX : Hid (CgAt W3 s x) := Lib.hid H3.out.cg
 have j0 := HX.out.k0; have k18 := H3.out.bk.k18
 have CC := Lib.hid ((by have h := isOver_any b o p W3; rwa [HOV.out] at h : Calls Tryz.prog 51 #[b.V o p] W3 (Yes W3 true)))
 go_wp2_with (first | ((with_reducible apply wpList_load_bk (h := HG.out)); exact rfl; exact rfl; exact rfl) | ((with_reducible apply wpList_load_cg (h := HX.out)); exact rfl; exact rfl; exact rfl) | (go_at_call 51; (with_reducible refine CC.out.mono ?_)))
 rintro e W4 ⟨rfl, hb4⟩
 have H4 := Lib.hid (H3.out.step hb4); have A4 := Lib.hid (A3.out.step hb4)
 clear H3 A3 HG HX CC hb4 j0 k18
 have HF := Lib.hid (fin2 H4.out.ans H4.out.bel H4.out.lo.2.2 (BAt.zero _) 5)
 have HQ := Lib.hid H4.out.ans
 have HX : Hid (CgAt W4 s x) := Lib.hid H4.out.cg
 have j0 := HX.out.k0; have k18 := H4.out.bk.k18
 clear H4
 go_wp2_with (first | ((with_reducible apply wpList_build_zb); exact rfl; exact rfl) | ((with_reducible apply wpList_store_bk (b := zb) (s := none) (t := none) (hq := HQ.out)); exact rfl; exact rfl; exact rfl; exact rfl))
 exact bodyPost_ret (results_two Tryz.results44 rfl rfl HF.out.1) rfl HF.out.2
set_option maxRecDepth 100000 in
set_option maxHeartbeats 1600000 in
theorem apply_on {b : Bk} {o p : Option Addr} {x : Cg} {w : World} (hb : BAt w b o p) (hok : b.Ok) (h0 : b.c.beq zc = false) (hi : x.ix = b.ix + 1) (h1 : isPlB b x = false) (h2 : isOnB b x = true) (ho : b.ix ≠ top) : Calls Tryz.prog 44 #[b.V o p, x.V] w (B2 w (applyB b x)) := by
 have HT := Lib.hid (WSt.new w b o p x)
 have HA := Lib.hid (hb.step HT.out.bel); clear hb
 have hw := hok.wrap
 rw [show applyB b x = (withB b x, 0) from by unfold applyB; rw [if_neg (by rw [h0]; decide), if_neg (fun h => h.elim (fun h => h hi) (fun h => by rw [show (isPlB b x || isOnB b x || isSetB b x) = true from by rw [h1, h2]; simp] at h; cases h)), if_neg (fun h => h.elim (fun h => by rw [h1] at h; exact absurd h.1 (by decide)) (fun h => ho h))]]
 have hot : (b.ix == top) = false := by simpa using ho
 have HOV := Lib.hid hot; clear ho hot
 have HCAR := Lib.hid (car_of (b := b) (x := x) (by rw [h1, h2]; simp)); have HRM := Lib.hid (hok.pos h0)
 have HPL := Lib.hid h1; have HON := Lib.hid h2; clear h1 h2
 have d1 : decide (x.ix = b.ix + 1) = true := by simpa using hi
 have n1 : (x.ix != b.ix + 1) = false := by simpa using hi
 have q1 : (x.ix == b.ix + 1) = true := by simpa using hi
 clear hi hok
 have H0N := Lib.hid h0; clear h0
 go_enter Tryz.func44, Tryz.ntmps44
 go_upto_region 1 with fail
 obtain ⟨W0, hW⟩ : ∃ W0, ((w.alloc (.cells (b.cells o p) 37)).alloc (.cells x.cells 48)).alloc (.cells Z29 37) = W0 := ⟨_, rfl⟩
 rw [hW] at HT HA ⊢; clear hW
 generalize w.heap.size + 1 + 1 = q at HT ⊢
 generalize w.heap.size + 1 = s at HT ⊢
 generalize w.heap.size = g at HT ⊢
 have H0 := Lib.hid HT.out; have A0 := Lib.hid HA.out; clear HT HA
 have HG := Lib.hid H0.out.bk
 have HX : Hid (CgAt W0 s x) := Lib.hid H0.out.cg
 have j0 := HX.out.k0; have k18 := H0.out.bk.k18
 have CC := Lib.hid ((by have h := isNone_any b o p W0; rwa [H0N.out] at h : Calls Tryz.prog 35 #[b.V o p] W0 (Yes W0 false)))
 go_wp2_with (first | ((with_reducible apply wpList_load_bk (h := HG.out)); exact rfl; exact rfl; exact rfl) | ((with_reducible apply wpList_load_cg (h := HX.out)); exact rfl; exact rfl; exact rfl) | (go_at_call 35; (with_reducible refine CC.out.mono ?_)))
 rintro e W1 ⟨rfl, hb1⟩
 have H1 := Lib.hid (H0.out.step hb1); have A1 := Lib.hid (A0.out.step hb1)
 clear H0 A0 HG HX CC hb1 j0 k18
 have HG := Lib.hid H1.out.bk
 have HX : Hid (CgAt W1 s x) := Lib.hid H1.out.cg
 have j0 := HX.out.k0; have k18 := H1.out.bk.k18
 have CC := Lib.hid ((by have h := isPlaced_any (x := x) A1.out; rwa [HPL.out] at h : Calls Tryz.prog 77 #[b.V o p, x.V] W1 (Yes W1 false)))
 go_wp2_with (first | ((with_reducible apply wpList_load_bk (h := HG.out)); exact rfl; exact rfl; exact rfl) | ((with_reducible apply wpList_load_cg (h := HX.out)); exact rfl; exact rfl; exact rfl) | (go_at_call 77; (with_reducible refine CC.out.mono ?_)))
 rintro e W2 ⟨rfl, hb2⟩
 have H2 := Lib.hid (H1.out.step hb2); have A2 := Lib.hid (A1.out.step hb2)
 clear H1 A1 HG HX CC hb2 j0 k18
 have HG := Lib.hid H2.out.bk
 have HX : Hid (CgAt W2 s x) := Lib.hid H2.out.cg
 have j0 := HX.out.k0; have k18 := H2.out.bk.k18
 have CC := Lib.hid ((by have h := isOn_any (x := x) A2.out; rwa [HON.out] at h : Calls Tryz.prog 78 #[b.V o p, x.V] W2 (Yes W2 true)))
 go_wp2_with (first | ((with_reducible apply wpList_load_bk (h := HG.out)); exact rfl; exact rfl; exact rfl) | ((with_reducible apply wpList_load_cg (h := HX.out)); exact rfl; exact rfl; exact rfl) | (go_at_call 78; (with_reducible refine CC.out.mono ?_)))
 rintro e W3 ⟨rfl, hb3⟩
 have H3 := Lib.hid (H2.out.step hb3); have A3 := Lib.hid (A2.out.step hb3)
 clear H2 A2 HG HX CC hb3 j0 k18
 have HG := Lib.hid H3.out.bk
 have HX : Hid (CgAt W3 s x) := Lib.hid H3.out.cg
 have j0 := HX.out.k0; have k18 := H3.out.bk.k18
 have CC := Lib.hid ((by have h := isOver_any b o p W3; rwa [HOV.out] at h : Calls Tryz.prog 51 #[b.V o p] W3 (Yes W3 false)))
 go_wp2_with (first | ((with_reducible apply wpList_load_bk (h := HG.out)); exact rfl; exact rfl; exact rfl) | ((with_reducible apply wpList_load_cg (h := HX.out)); exact rfl; exact rfl; exact rfl) | (go_at_call 51; (with_reducible refine CC.out.mono ?_)))
 rintro e W4 ⟨rfl, hb4⟩
 have H4 := Lib.hid (H3.out.step hb4); have A4 := Lib.hid (A3.out.step hb4)
 clear H3 A3 HG HX CC hb4 j0 k18
 have HG := Lib.hid H4.out.bk
 have HX : Hid (CgAt W4 s x) := Lib.hid H4.out.cg
 have CC := Lib.hid (with_any A4.out HCAR.out HRM.out)
 go_wp2_with (first | ((with_reducible apply wpList_load_bk (h := HG.out)); exact rfl; exact rfl; exact rfl) | ((with_reducible apply wpList_load_cg (h := HX.out)); exact rfl; exact rfl; exact rfl) | (go_at_call 52; (with_reducible refine CC.out.mono ?_)))
 rintro e w9 ⟨o9, p9, rfl, ha9, hb9⟩
 have H9 := Lib.hid (H4.out.step hb9)
 have HF := Lib.hid (fin2 H9.out.ans H9.out.bel H9.out.lo.2.2 ha9 0)
 have HQ := Lib.hid H9.out.ans
 clear H4 A4 HG HX CC hb9 ha9 H9
 generalize withB b x = b9 at *
 go_wp2_with ((with_reducible apply wpList_store_bk (b := b9) (s := o9) (t := p9) (hq := HQ.out)); exact rfl; exact rfl; exact rfl; exact rfl)
 exact bodyPost_ret (results_two Tryz.results44 rfl rfl HF.out.1) rfl HF.out.2
set_option maxRecDepth 100000 in
set_option maxHeartbeats 1600000 in
theorem apply_set_over {b : Bk} {o p : Option Addr} {x : Cg} {w : World} (hb : BAt w b o p) (hok : b.Ok) (h0 : b.c.beq zc = false) (hi : x.ix = b.ix + 1) (h1 : isPlB b x = false) (h2 : isOnB b x = false) (h3 : isSetB b x = true) (ho : b.ix = top) : Calls Tryz.prog 44 #[b.V o p, x.V] w (B2 w (applyB b x)) := by
 have HT := Lib.hid (WSt.new w b o p x)
 have HA := Lib.hid (hb.step HT.out.bel); clear hb
 have hw := hok.wrap
 rw [show applyB b x = (zb, 5) from by unfold applyB; rw [if_neg (by rw [h0]; decide), if_neg (fun h => h.elim (fun h => h hi) (fun h => by rw [show (isPlB b x || isOnB b x || isSetB b x) = true from by rw [h1, h2, h3]; simp] at h; cases h)), if_pos (.inr ho)]]
 have hot : (b.ix == top) = true := by simpa using ho
 have HOV := Lib.hid hot; clear ho hot
 have HCAR := Lib.hid (car_of (b := b) (x := x) (by rw [h1, h2, h3]; simp)); have HRM := Lib.hid (hok.pos h0)
 have HPL := Lib.hid h1; have HON := Lib.hid h2; have HST := Lib.hid h3; clear h1 h2 h3
 have d1 : decide (x.ix = b.ix + 1) = true := by simpa using hi
 have n1 : (x.ix != b.ix + 1) = false := by simpa using hi
 have q1 : (x.ix == b.ix + 1) = true := by simpa using hi
 clear hi hok
 have H0N := Lib.hid h0; clear h0
 go_enter Tryz.func44, Tryz.ntmps44
 go_upto_region 1 with fail
 obtain ⟨W0, hW⟩ : ∃ W0, ((w.alloc (.cells (b.cells o p) 37)).alloc (.cells x.cells 48)).alloc (.cells Z29 37) = W0 := ⟨_, rfl⟩
 rw [hW] at HT HA ⊢; clear hW
 generalize w.heap.size + 1 + 1 = q at HT ⊢
 generalize w.heap.size + 1 = s at HT ⊢
 generalize w.heap.size = g at HT ⊢
 have H0 := Lib.hid HT.out; have A0 := Lib.hid HA.out; clear HT HA
 have HG := Lib.hid H0.out.bk
 have HX : Hid (CgAt W0 s x) := Lib.hid H0.out.cg
 have j0 := HX.out.k0; have k18 := H0.out.bk.k18
 have CC := Lib.hid ((by have h := isNone_any b o p W0; rwa [H0N.out] at h : Calls Tryz.prog 35 #[b.V o p] W0 (Yes W0 false)))
 go_wp2_with (first | ((with_reducible apply wpList_load_bk (h := HG.out)); exact rfl; exact rfl; exact rfl) | ((with_reducible apply wpList_load_cg (h := HX.out)); exact rfl; exact rfl; exact rfl) | (go_at_call 35; (with_reducible refine CC.out.mono ?_)))
 rintro e W1 ⟨rfl, hb1⟩
 have H1 := Lib.hid (H0.out.step hb1); have A1 := Lib.hid (A0.out.step hb1)
 clear H0 A0 HG HX CC hb1 j0 k18
 have HG := Lib.hid H1.out.bk
 have HX : Hid (CgAt W1 s x) := Lib.hid H1.out.cg
 have j0 := HX.out.k0; have k18 := H1.out.bk.k18
 have CC := Lib.hid ((by have h := isPlaced_any (x := x) A1.out; rwa [HPL.out] at h : Calls Tryz.prog 77 #[b.V o p, x.V] W1 (Yes W1 false)))
 go_wp2_with (first | ((with_reducible apply wpList_load_bk (h := HG.out)); exact rfl; exact rfl; exact rfl) | ((with_reducible apply wpList_load_cg (h := HX.out)); exact rfl; exact rfl; exact rfl) | (go_at_call 77; (with_reducible refine CC.out.mono ?_)))
 rintro e W2 ⟨rfl, hb2⟩
 have H2 := Lib.hid (H1.out.step hb2); have A2 := Lib.hid (A1.out.step hb2)
 clear H1 A1 HG HX CC hb2 j0 k18
 have HG := Lib.hid H2.out.bk
 have HX : Hid (CgAt W2 s x) := Lib.hid H2.out.cg
 have j0 := HX.out.k0; have k18 := H2.out.bk.k18
 have CC := Lib.hid ((by have h := isOn_any (x := x) A2.out; rwa [HON.out] at h : Calls Tryz.prog 78 #[b.V o p, x.V] W2 (Yes W2 false)))
 go_wp2_with (first | ((with_reducible apply wpList_load_bk (h := HG.out)); exact rfl; exact rfl; exact rfl) | ((with_reducible apply wpList_load_cg (h := HX.out)); exact rfl; exact rfl; exact rfl) | (go_at_call 78; (with_reducible refine CC.out.mono ?_)))
 rintro e W3 ⟨rfl, hb3⟩
 have H3 := Lib.hid (H2.out.step hb3); have A3 := Lib.hid (A2.out.step hb3)
 clear H2 A2 HG HX CC hb3 j0 k18
 have HG := Lib.hid H3.out.bk
 have HX : Hid (CgAt W3 s x) := Lib.hid H3.out.cg
 have j0 := HX.out.k0; have k18 := H3.out.bk.k18
 have CC := Lib.hid ((by have h := isSet_any (x := x) A3.out; rwa [HST.out] at h : Calls Tryz.prog 79 #[b.V o p, x.V] W3 (Yes W3 true)))
 go_wp2_with (first | ((with_reducible apply wpList_load_bk (h := HG.out)); exact rfl; exact rfl; exact rfl) | ((with_reducible apply wpList_load_cg (h := HX.out)); exact rfl; exact rfl; exact rfl) | (go_at_call 79; (with_reducible refine CC.out.mono ?_)))
 rintro e W4 ⟨rfl, hb4⟩
 have H4 := Lib.hid (H3.out.step hb4); have A4 := Lib.hid (A3.out.step hb4)
 clear H3 A3 HG HX CC hb4 j0 k18
 have HG := Lib.hid H4.out.bk
 have HX : Hid (CgAt W4 s x) := Lib.hid H4.out.cg
 have j0 := HX.out.k0; have k18 := H4.out.bk.k18
 have CC := Lib.hid ((by have h := isOver_any b o p W4; rwa [HOV.out] at h : Calls Tryz.prog 51 #[b.V o p] W4 (Yes W4 true)))
 go_wp2_with (first | ((with_reducible apply wpList_load_bk (h := HG.out)); exact rfl; exact rfl; exact rfl) | ((with_reducible apply wpList_load_cg (h := HX.out)); exact rfl; exact rfl; exact rfl) | (go_at_call 51; (with_reducible refine CC.out.mono ?_)))
 rintro e W5 ⟨rfl, hb5⟩
 have H5 := Lib.hid (H4.out.step hb5); have A5 := Lib.hid (A4.out.step hb5)
 clear H4 A4 HG HX CC hb5 j0 k18
 have HF := Lib.hid (fin2 H5.out.ans H5.out.bel H5.out.lo.2.2 (BAt.zero _) 5)
 have HQ := Lib.hid H5.out.ans
 have HX : Hid (CgAt W5 s x) := Lib.hid H5.out.cg
 have j0 := HX.out.k0; have k18 := H5.out.bk.k18
 clear H5
 go_wp2_with (first | ((with_reducible apply wpList_build_zb); exact rfl; exact rfl) | ((with_reducible apply wpList_store_bk (b := zb) (s := none) (t := none) (hq := HQ.out)); exact rfl; exact rfl; exact rfl; exact rfl))
 exact bodyPost_ret (results_two Tryz.results44 rfl rfl HF.out.1) rfl HF.out.2
set_option maxRecDepth 100000 in
set_option maxHeartbeats 1600000 in
theorem apply_set {b : Bk} {o p : Option Addr} {x : Cg} {w : World} (hb : BAt w b o p) (hok : b.Ok) (h0 : b.c.beq zc = false) (hi : x.ix = b.ix + 1) (h1 : isPlB b x = false) (h2 : isOnB b x = false) (h3 : isSetB b x = true) (ho : b.ix ≠ top) : Calls Tryz.prog 44 #[b.V o p, x.V] w (B2 w (applyB b x)) := by
 have HT := Lib.hid (WSt.new w b o p x)
 have HA := Lib.hid (hb.step HT.out.bel); clear hb
 have hw := hok.wrap
 rw [show applyB b x = (withB b x, 0) from by unfold applyB; rw [if_neg (by rw [h0]; decide), if_neg (fun h => h.elim (fun h => h hi) (fun h => by rw [show (isPlB b x || isOnB b x || isSetB b x) = true from by rw [h1, h2, h3]; simp] at h; cases h)), if_neg (fun h => h.elim (fun h => by rw [h1] at h; exact absurd h.1 (by decide)) (fun h => ho h))]]
 have hot : (b.ix == top) = false := by simpa using ho
 have HOV := Lib.hid hot; clear ho hot
 have HCAR := Lib.hid (car_of (b := b) (x := x) (by rw [h1, h2, h3]; simp)); have HRM := Lib.hid (hok.pos h0)
 have HPL := Lib.hid h1; have HON := Lib.hid h2; have HST := Lib.hid h3; clear h1 h2 h3
 have d1 : decide (x.ix = b.ix + 1) = true := by simpa using hi
 have n1 : (x.ix != b.ix + 1) = false := by simpa using hi
 have q1 : (x.ix == b.ix + 1) = true := by simpa using hi
 clear hi hok
 have H0N := Lib.hid h0; clear h0
 go_enter Tryz.func44, Tryz.ntmps44
 go_upto_region 1 with fail
 obtain ⟨W0, hW⟩ : ∃ W0, ((w.alloc (.cells (b.cells o p) 37)).alloc (.cells x.cells 48)).alloc (.cells Z29 37) = W0 := ⟨_, rfl⟩
 rw [hW] at HT HA ⊢; clear hW
 generalize w.heap.size + 1 + 1 = q at HT ⊢
 generalize w.heap.size + 1 = s at HT ⊢
 generalize w.heap.size = g at HT ⊢
 have H0 := Lib.hid HT.out; have A0 := Lib.hid HA.out; clear HT HA
 have HG := Lib.hid H0.out.bk
 have HX : Hid (CgAt W0 s x) := Lib.hid H0.out.cg
 have j0 := HX.out.k0; have k18 := H0.out.bk.k18
 have CC := Lib.hid ((by have h := isNone_any b o p W0; rwa [H0N.out] at h : Calls Tryz.prog 35 #[b.V o p] W0 (Yes W0 false)))
 go_wp2_with (first | ((with_reducible apply wpList_load_bk (h := HG.out)); exact rfl; exact rfl; exact rfl) | ((with_reducible apply wpList_load_cg (h := HX.out)); exact rfl; exact rfl; exact rfl) | (go_at_call 35; (with_reducible refine CC.out.mono ?_)))
 rintro e W1 ⟨rfl, hb1⟩
 have H1 := Lib.hid (H0.out.step hb1); have A1 := Lib.hid (A0.out.step hb1)
 clear H0 A0 HG HX CC hb1 j0 k18
 have HG := Lib.hid H1.out.bk
 have HX : Hid (CgAt W1 s x) := Lib.hid H1.out.cg
 have j0 := HX.out.k0; have k18 := H1.out.bk.k18
 have CC := Lib.hid ((by have h := isPlaced_any (x := x) A1.out; rwa [HPL.out] at h : Calls Tryz.prog 77 #[b.V o p, x.V] W1 (Yes W1 false)))
 go_wp2_with (first | ((with_reducible apply wpList_load_bk (h := HG.out)); exact rfl; exact rfl; exact rfl) | ((with_reducible apply wpList_load_cg (h := HX.out)); exact rfl; exact rfl; exact rfl) | (go_at_call 77; (with_reducible refine CC.out.mono ?_)))
 rintro e W2 ⟨rfl, hb2⟩
 have H2 := Lib.hid (H1.out.step hb2); have A2 := Lib.hid (A1.out.step hb2)
 clear H1 A1 HG HX CC hb2 j0 k18
 have HG := Lib.hid H2.out.bk
 have HX : Hid (CgAt W2 s x) := Lib.hid H2.out.cg
 have j0 := HX.out.k0; have k18 := H2.out.bk.k18
 have CC := Lib.hid ((by have h := isOn_any (x := x) A2.out; rwa [HON.out] at h : Calls Tryz.prog 78 #[b.V o p, x.V] W2 (Yes W2 false)))
 go_wp2_with (first | ((with_reducible apply wpList_load_bk (h := HG.out)); exact rfl; exact rfl; exact rfl) | ((with_reducible apply wpList_load_cg (h := HX.out)); exact rfl; exact rfl; exact rfl) | (go_at_call 78; (with_reducible refine CC.out.mono ?_)))
 rintro e W3 ⟨rfl, hb3⟩
 have H3 := Lib.hid (H2.out.step hb3); have A3 := Lib.hid (A2.out.step hb3)
 clear H2 A2 HG HX CC hb3 j0 k18
 have HG := Lib.hid H3.out.bk
 have HX : Hid (CgAt W3 s x) := Lib.hid H3.out.cg
 have j0 := HX.out.k0; have k18 := H3.out.bk.k18
 have CC := Lib.hid ((by have h := isSet_any (x := x) A3.out; rwa [HST.out] at h : Calls Tryz.prog 79 #[b.V o p, x.V] W3 (Yes W3 true)))
 go_wp2_with (first | ((with_reducible apply wpList_load_bk (h := HG.out)); exact rfl; exact rfl; exact rfl) | ((with_reducible apply wpList_load_cg (h := HX.out)); exact rfl; exact rfl; exact rfl) | (go_at_call 79; (with_reducible refine CC.out.mono ?_)))
 rintro e W4 ⟨rfl, hb4⟩
 have H4 := Lib.hid (H3.out.step hb4); have A4 := Lib.hid (A3.out.step hb4)
 clear H3 A3 HG HX CC hb4 j0 k18
 have HG := Lib.hid H4.out.bk
 have HX : Hid (CgAt W4 s x) := Lib.hid H4.out.cg
 have j0 := HX.out.k0; have k18 := H4.out.bk.k18
 have CC := Lib.hid ((by have h := isOver_any b o p W4; rwa [HOV.out] at h : Calls Tryz.prog 51 #[b.V o p] W4 (Yes W4 false)))
 go_wp2_with (first | ((with_reducible apply wpList_load_bk (h := HG.out)); exact rfl; exact rfl; exact rfl) | ((with_reducible apply wpList_load_cg (h := HX.out)); exact rfl; exact rfl; exact rfl) | (go_at_call 51; (with_reducible refine CC.out.mono ?_)))
 rintro e W5 ⟨rfl, hb5⟩
 have H5 := Lib.hid (H4.out.step hb5); have A5 := Lib.hid (A4.out.step hb5)
 clear H4 A4 HG HX CC hb5 j0 k18
 have HG := Lib.hid H5.out.bk
 have HX : Hid (CgAt W5 s x) := Lib.hid H5.out.cg
 have CC := Lib.hid (with_any A5.out HCAR.out HRM.out)
 go_wp2_with (first | ((with_reducible apply wpList_load_bk (h := HG.out)); exact rfl; exact rfl; exact rfl) | ((with_reducible apply wpList_load_cg (h := HX.out)); exact rfl; exact rfl; exact rfl) | (go_at_call 52; (with_reducible refine CC.out.mono ?_)))
 rintro e w9 ⟨o9, p9, rfl, ha9, hb9⟩
 have H9 := Lib.hid (H5.out.step hb9)
 have HF := Lib.hid (fin2 H9.out.ans H9.out.bel H9.out.lo.2.2 ha9 0)
 have HQ := Lib.hid H9.out.ans
 clear H5 A5 HG HX CC hb9 ha9 H9
 generalize withB b x = b9 at *
 go_wp2_with ((with_reducible apply wpList_store_bk (b := b9) (s := o9) (t := p9) (hq := HQ.out)); exact rfl; exact rfl; exact rfl; exact rfl)
 exact bodyPost_ret (results_two Tryz.results44 rfl rfl HF.out.1) rfl HF.out.2
theorem applyBk_any {b : Bk} {o p : Option Addr} {x : Cg} {w : World} (hb : BAt w b o p) (hok : b.Ok) : Calls Tryz.prog 44 #[b.V o p, x.V] w (B2 w (applyB b x)) := by
 cases h0 : b.c.beq zc
 ·by_cases hi : x.ix = b.ix + 1
  ·cases h1 : isPlB b x
   ·cases h2 : isOnB b x
    ·cases h3 : isSetB b x
     ·exact apply_none hb hok h0 hi h1 h2 h3
     ·by_cases ho : b.ix = top
      ·exact apply_set_over hb hok h0 hi h1 h2 h3 ho
      ·exact apply_set hb hok h0 hi h1 h2 h3 ho
    ·by_cases ho : b.ix = top
     ·exact apply_on_over hb hok h0 hi h1 h2 ho
     ·exact apply_on hb hok h0 hi h1 h2 ho
   ·by_cases hf : b.live.length = b.rm
    ·exact apply_placed_full hb hok h0 hi h1 hf
    ·by_cases ho : b.ix = top
     ·exact apply_placed_over hb hok h0 hi h1 hf ho
     ·exact apply_placed hb hok h0 hi h1 hf ho
  ·exact apply_index hb hok h0 hi
 ·exact apply_nil hb hok h0
end Go.Proofs.YtplapoenhohliaaGreat
