/- The document's own answer whether a configuration can be, and its round trip. -/
import Derived.Test.YthnjghkloodblaaRef
import Derived.Deep.CutRange
namespace Go.Proofs.Ythnjghkloodblaa
open Go.RowKit Go.Lib
set_option linter.unusedVariables false

structure GSt (w wx : World) (p3 p4 p5 : Nat) (c : Cfg) : Prop where
  l : IAt wx p3 los
  h : IAt wx p4 his
  n : IAt wx p5 c.n
  bel : Below w.heap.size w wx
theorem GSt.step {w wx wy : World} {p3 p4 p5 : Nat} {c : Cfg} (h : GSt w wx p3 p4 p5 c) (hb : Below wx.heap.size wx wy) : GSt w wy p3 p4 p5 c := ⟨h.l.step hb, h.h.step hb, h.n.step hb, h.bel.trans (hb.mono h.bel.size)⟩
set_option maxRecDepth 100000 in
set_option maxHeartbeats 2000000 in
theorem good_any (c : Cfg) (w : World) : Calls Try.prog 8 #[c.V] w fun e w' => e = .returned (.bool (okc c)) ∧ Below w.heap.size w w' := by
  have CL := Lib.hid (fun W => list_any c W)
  have HC := Lib.hid (CAt.new w c)
  have HB := Lib.hid (below_new w (.cells c.cells 24))
  have H17 := Lib.hid c.len
  go_enter Try.func8, Try.ntmps8
  go_upto_region 1 with fail
  obtain ⟨W0, hW0⟩ : ∃ W0, w.alloc (.cells c.cells 24) = W0 := ⟨_, rfl⟩
  rw [hW0] at HC HB ⊢; clear hW0
  generalize hp : w.heap.size = p at *
  have HP := Lib.hid hp; clear hp
  go_upto_region 2 with (first | (refine wpList_build_as rfl 40 _ rfl (ints los) (by kernel_rfl) ?_) | (refine wpList_store_row rfl 40 _ _ rfl _ (ints los) rfl rfl 40 _ (heap_alloc_new _ _) (size40 rfl) rfl (ints_one _) ?_; rw [World.setRow_alloc_new]))
  have L1 := Lib.hid (IAt.new W0 los)
  have C1 := Lib.hid (HC.out.step (below_new W0 (.cells (ints los) 40)))
  have B1 := Lib.hid (HB.out.trans ((below_new W0 (.cells (ints los) 40)).mono (by rw [← HP.out]; exact HB.out.size)))
  obtain ⟨W1, hW1⟩ : ∃ W1, W0.alloc (.cells (ints los) 40) = W1 := ⟨_, rfl⟩
  rw [hW1] at L1 C1 B1 ⊢; clear hW1 HC HB
  generalize W0.heap.size = p3 at *
  go_upto_region 3 with (first | (refine wpList_build_as rfl 40 _ rfl (ints his) (by kernel_rfl) ?_) | (refine wpList_store_row rfl 40 _ _ rfl _ (ints his) rfl rfl 40 _ (heap_alloc_new _ _) (size40 rfl) rfl (ints_one _) ?_; rw [World.setRow_alloc_new]))
  have L2 := Lib.hid (L1.out.step (below_new W1 (.cells (ints his) 40)))
  have H2 := Lib.hid (IAt.new W1 his)
  have C2 := Lib.hid (C1.out.step (below_new W1 (.cells (ints his) 40)))
  have B2 := Lib.hid (B1.out.trans ((below_new W1 (.cells (ints his) 40)).mono (by rw [← HP.out]; exact B1.out.size)))
  obtain ⟨W2, hW2⟩ : ∃ W2, W1.alloc (.cells (ints his) 40) = W2 := ⟨_, rfl⟩
  rw [hW2] at L2 H2 C2 B2 ⊢; clear hW2 L1 C1 B1
  generalize W1.heap.size = p4 at *
  go_wp2_with (refine wpList_load_row rfl 24 _ rfl _ rfl 24 c.cells (0, 0) _ C2.out Try.underlying24 rfl (size24 c) ?_)
  refine (CL.out _).mono ?_
  rintro e w3 ⟨rfl, hb⟩
  have L3 := Lib.hid (L2.out.step hb); have H3 := Lib.hid (H2.out.step hb)
  have B3 := Lib.hid (B2.out.trans (hb.mono (by rw [← HP.out]; exact B2.out.size)))
  clear hb L2 H2 C2 B2
  go_upto_region 4 with (refine wpList_store_row rfl 40 _ _ rfl _ (ints c.n) rfl rfl 40 _ (heap_alloc_new _ _) (size40 H17.out) (by rw [ints_size c.n, H17.out]; rfl) (ints_one _) ?_; rw [World.setRow_alloc_new])
  have st : GSt w (w3.alloc (.cells (ints c.n) 40)) p3 p4 w3.heap.size c := by
    have hn := below_new w3 (.cells (ints c.n) 40)
    exact ⟨L3.out.step hn, H3.out.step hn, IAt.new w3 c.n, HP.out.symm ▸ B3.out.trans (hn.mono (by rw [← HP.out]; exact B3.out.size))⟩
  have ST := Lib.hid st; clear st L3 H3 B3
  obtain ⟨W4, hW4⟩ : ∃ W4, w3.alloc (.cells (ints c.n) 40) = W4 := ⟨_, rfl⟩
  rw [hW4] at ST ⊢; clear hW4
  generalize w3.heap.size = p5 at *
  go_wp2_with fail
  go_loopg [6] 17 (fun gh s6 wx => ∃ j : Nat, j ≤ 17 ∧ gh = 17 - j ∧ s6 = .int .i64 (j : Int) ∧ GSt w wx p3 p4 p5 c ∧ okTo c j = true)
  case atStart => exact ⟨0, Nat.zero_le _, rfl, rfl, ST.out, rfl⟩
  case round =>
    obtain ⟨j, hj, hg, rfl, hst, hok⟩ := hrel
    have HG := Lib.hid hg; have HS := Lib.hid hst; have HOK := Lib.hid hok; clear hg ST hok
    by_cases hlt : j < 17
    · have k1 : wr.cell? ⟨p3, j, none⟩ = some (.int .i64 (lo j)) := hst.l.get (k := j) (by simpa [los] using hlt)
      have k2 : wr.cell? ⟨p4, j, none⟩ = some (.int .i64 (hi j)) := hst.h.get (k := j) (by simpa [his] using hlt)
      have k3 : wr.cell? ⟨p5, j, none⟩ = some (.int .i64 (c.get j)) := hst.n.get (k := j) (by rw [H17.out]; exact hlt)
      have b0 : (0 : Int) ≤ (j : Int) := by omega
      have b1 : (j : Int) < 17 := by omega
      clear hst
      by_cases h1 : c.get j < lo j
      · have HR := Lib.hid (okc_false (c := c) hlt (by simp [okAt]; omega))
        have d1 : decide (c.get j < lo j) = true := by simpa using h1
        generalize c.get j = y at *
        generalize lo j = l1 at *
        generalize hi j = l2 at *
        go_wp2_with fail
        go_quiet (fail)
        go_wp2_with fail
        go_ret
        exact ⟨ret_bool HR.out.symm, below_drewN HS.out.bel _⟩
      · by_cases h2 : hi j < c.get j
        · have HR := Lib.hid (okc_false (c := c) hlt (by simp [okAt]; omega))
          have d1 : decide (c.get j < lo j) = false := by simpa using h1
          have d2 : decide (hi j < c.get j) = true := by simpa using h2
          generalize c.get j = y at *
          generalize lo j = l1 at *
          generalize hi j = l2 at *
          go_wp2_with fail
          go_quiet (fail)
          go_wp2_with fail
          go_ret
          exact ⟨ret_bool HR.out.symm, below_drewN HS.out.bel _⟩
        · have HN : Hid (okTo c (j + 1) = true) := Lib.hid (by rw [okTo_succ, HOK.out, okAt_iff.2 ⟨by omega, by omega⟩]; rfl)
          have d1 : decide (c.get j < lo j) = false := by simpa using h1
          have d2 : decide (hi j < c.get j) = false := by simpa using h2
          generalize c.get j = y at *
          generalize lo j = l1 at *
          generalize hi j = l2 at *
          go_wp2_with fail
          go_quiet (fail)
          go_wp2_with fail
          go_roundg (17 - (j + 1))
          case measure => have := HG.out; omega
          case rel => exact ⟨j + 1, by omega, rfl, by go_num, HS.out.step (below_drewN (Below.refl _ _) _), HN.out⟩
    · obtain rfl : j = 17 := by omega
      have HR := Lib.hid (show okc c = true from HOK.out)
      clear hst
      go_wp2_with fail
      go_ret
      exact ⟨ret_bool HR.out.symm, HS.out.bel⟩
set_option maxRecDepth 100000 in
set_option maxHeartbeats 1000000 in
theorem rtrip_any (c : Cfg) (w : World) : Calls Try.prog 11 #[c.V] w fun e w' => e = .returned (.int .i64 (trp c)) ∧ Below w.heap.size w w' := by
  have HA := Lib.hid (CAt.new w c)
  have HB := Lib.hid (below_new w (.cells c.cells 24))
  have CK := Lib.hid (fun W => good_any c W)
  cases h : okc c
  · rw [h] at CK
    have HR : Hid (trp c = 0) := Lib.hid (if_neg (by rw [h]; decide))
    clear h
    go_enter Try.func11, Try.ntmps11
    go_wp2_with (first | (refine wpList_load_row rfl 24 _ rfl _ rfl 24 c.cells (0, 0) _ HA.out Try.underlying24 rfl (size24 c) ?_) | (refine (CK.out _).mono ?_; rintro e w1 ⟨rfl, hb⟩))
    go_ret
    exact ⟨ret_int HR.out.symm, HB.out.trans (hb.mono HB.out.size)⟩
  · rw [h] at CK
    have HR := Lib.hid (trp_wrap h)
    clear h
    go_enter Try.func11, Try.ntmps11
    go_wp2_with (first | (refine wpList_load_row rfl 24 _ rfl _ rfl 24 c.cells (0, 0) _ HA.out Try.underlying24 rfl (size24 c) ?_) | (refine (CK.out _).mono ?_; rintro e w1 ⟨rfl, hb⟩; have k0 := (HA.out.step hb).get (k := 0) (by omega); have k15 := (HA.out.step hb).get (k := 15) (by omega); have k16 := (HA.out.step hb).get (k := 16) (by omega)))
    go_ret
    exact ⟨ret_int HR.out, HB.out.trans (hb.mono HB.out.size)⟩
end Go.Proofs.Ythnjghkloodblaa
