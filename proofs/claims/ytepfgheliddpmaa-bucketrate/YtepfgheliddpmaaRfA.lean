/- The document's own: all numbers, whether a building can be. -/
import Derived.Test.YtepfgheliddpmaaRef
import Derived.BigQuiet
import Derived.Deep.QuietTactic
import Derived.Deep.CutRange
namespace Go.Proofs.Ytepfgheliddpmaa
open Go.RowKit Go.Lib
set_option linter.unusedVariables false
set_option linter.unusedSimpArgs false

/-- seventeen numbers in a row -/
def cints (l : List Int) : Array Value := (l.map (Value.int .i64)).toArray
theorem cints_size (l : List Int) : (cints l).size = l.length := by simp [cints]
theorem cints_at (l : List Int) (k : Nat) (h : k < l.length) : (cints l)[k]? = some (.int .i64 (l.getD k 0)) := by simp [cints, h]
theorem cints_one (l : List Int) : (cints l).all (·.oneCell') = true := by
  rw [← Array.all_toList, List.all_eq_true]
  intro x hx
  simp [cints] at hx
  obtain ⟨a, _, rfl⟩ := hx
  rfl
theorem size40 {l : List Int} (h : l.length = 17) : (Try.prog.info? 56).map (·.size) = some (cints l).size := by rw [cints_size, h]; kernel_rfl
def z17 : List Int := List.replicate 17 0
/-- an array of seventeen numbers in a block -/
abbrev IAt (w : World) (p : Nat) (l : List Int) : Prop := At w p 56 (cints l)
theorem IAt.get {w : World} {p : Nat} {l : List Int} (h : IAt w p l) {k : Nat} (hk : k < l.length) : w.cell? ⟨p, k, none⟩ = some (.int .i64 (l.getD k 0)) := by rw [At.cell h, cints_at l k hk]
theorem IAt.step {w w' : World} {p : Nat} {l : List Int} (h : IAt w p l) (hb : Below w.heap.size w w') : IAt w' p l := At.below h hb (At.lt h)
theorem IAt.setRow {w : World} {p : Nat} {l : List Int} (h : IAt w p l) (d : List Int) : IAt (w.setRow p (cints d)) p d := setRow_heap w p (cints l) (cints d) 56 (0, 0) h
theorem IAt.new (w : World) (l : List Int) : IAt (w.alloc (.cells (cints l) 56)) w.heap.size l := At.new w 56 _
theorem Cfg.list (c : Cfg) : c.n = [c.get 0, c.get 1, c.get 2, c.get 3, c.get 4, c.get 5, c.get 6, c.get 7, c.get 8, c.get 9, c.get 10, c.get 11, c.get 12, c.get 13, c.get 14, c.get 15, c.get 16] := by
  have h : c.n = (List.range 17).map c.get := by
    apply List.ext_getElem (by simp [c.len])
    intro i h1 h2
    simp [Cfg.get, h1]
  exact h
theorem cints_n (c : Cfg) : cints c.n = cints [c.get 0, c.get 1, c.get 2, c.get 3, c.get 4, c.get 5, c.get 6, c.get 7, c.get 8, c.get 9, c.get 10, c.get 11, c.get 12, c.get 13, c.get 14, c.get 15, c.get 16] := by rw [← c.list]
set_option maxRecDepth 100000 in
set_option maxHeartbeats 1000000 in
theorem list_any (c : Cfg) (w : World) : Calls Try.prog 23 #[c.V] w fun e w' => e = .returned (.agg (cints c.n)) ∧ Below w.heap.size w w' := by
  have HA := Lib.hid ((CAt.new w c).step (below_new _ (.cells (cints z17) 56)))
  have HZ := Lib.hid (IAt.new (w.alloc (.cells c.cells 24)) z17)
  have HS := Lib.hid (show (w.alloc (.cells c.cells 24)).heap.size = w.heap.size + 1 by simp)
  have HB := Lib.hid ((below_new w (.cells c.cells 24)).alloc (by simp) (.cells (cints z17) 56))
  have HN := Lib.hid c.list; have H17 := Lib.hid c.len
  rw [HS.out] at HZ
  clear HS
  have a0 := c.at_ (k := 0) (by omega)
  have a1 := c.at_ (k := 1) (by omega)
  have a2 := c.at_ (k := 2) (by omega)
  have a3 := c.at_ (k := 3) (by omega)
  have a4 := c.at_ (k := 4) (by omega)
  have a5 := c.at_ (k := 5) (by omega)
  have a6 := c.at_ (k := 6) (by omega)
  have a7 := c.at_ (k := 7) (by omega)
  have a8 := c.at_ (k := 8) (by omega)
  have a9 := c.at_ (k := 9) (by omega)
  have a10 := c.at_ (k := 10) (by omega)
  have a11 := c.at_ (k := 11) (by omega)
  have a12 := c.at_ (k := 12) (by omega)
  have a13 := c.at_ (k := 13) (by omega)
  have a14 := c.at_ (k := 14) (by omega)
  have a15 := c.at_ (k := 15) (by omega)
  have a16 := c.at_ (k := 16) (by omega)
  go_enter Try.func23, Try.ntmps23
  go_wp2_with (first | (refine wpList_build_as rfl 56 _ rfl (cints [c.get 0, c.get 1, c.get 2, c.get 3, c.get 4, c.get 5, c.get 6, c.get 7, c.get 8, c.get 9, c.get 10, c.get 11, c.get 12, c.get 13, c.get 14, c.get 15, c.get 16]) (by kernel_rfl) ?_) | (refine wpList_store_row rfl 56 _ _ rfl _ (cints [c.get 0, c.get 1, c.get 2, c.get 3, c.get 4, c.get 5, c.get 6, c.get 7, c.get 8, c.get 9, c.get 10, c.get 11, c.get 12, c.get 13, c.get 14, c.get 15, c.get 16]) rfl rfl 56 _ HZ.out (size40 rfl) rfl (cints_one _) ?_))
  refine bodyPost_ret (results_cell_row (P := Try.prog) Try.results23 _ _ (w.heap.size + 1) 56 (cints [c.get 0, c.get 1, c.get 2, c.get 3, c.get 4, c.get 5, c.get 6, c.get 7, c.get 8, c.get 9, c.get 10, c.get 11, c.get 12, c.get 13, c.get 14, c.get 15, c.get 16]) (0, 0) _ rfl (IAt.setRow HZ.out _) Try.underlying56 rfl (size40 rfl)) rfl ⟨by rw [HN.out], below_setRow HB.out (by omega) _⟩

structure GSt (w wx : World) (p3 p4 p5 : Nat) (c : Cfg) : Prop where
  l : IAt wx p3 los
  h : IAt wx p4 his
  n : IAt wx p5 c.n
  bel : Below w.heap.size w wx
theorem GSt.step {w wx wy : World} {p3 p4 p5 : Nat} {c : Cfg} (h : GSt w wx p3 p4 p5 c) (hb : Below wx.heap.size wx wy) : GSt w wy p3 p4 p5 c := ⟨h.l.step hb, h.h.step hb, h.n.step hb, h.bel.trans (hb.mono h.bel.size)⟩
set_option maxRecDepth 100000 in
set_option maxHeartbeats 2000000 in
theorem good_any (c : Cfg) (w : World) : Calls Try.prog 18 #[c.V] w fun e w' => e = .returned (.bool (okc c)) ∧ Below w.heap.size w w' := by
  have CL := Lib.hid (fun W => list_any c W)
  have HC := Lib.hid (CAt.new w c)
  have HB := Lib.hid (below_new w (.cells c.cells 24))
  have H17 := Lib.hid c.len
  go_enter Try.func18, Try.ntmps18
  go_upto_region 1 with fail
  obtain ⟨W0, hW0⟩ : ∃ W0, w.alloc (.cells c.cells 24) = W0 := ⟨_, rfl⟩
  rw [hW0] at HC HB ⊢; clear hW0
  generalize hp : w.heap.size = p at *
  have HP := Lib.hid hp; clear hp
  go_upto_region 2 with (first | (refine wpList_build_as rfl 56 _ rfl (cints los) (by kernel_rfl) ?_) | (refine wpList_store_row rfl 56 _ _ rfl _ (cints los) rfl rfl 56 _ (heap_alloc_new _ _) (size40 rfl) rfl (cints_one _) ?_; rw [World.setRow_alloc_new]))
  have L1 := Lib.hid (IAt.new W0 los)
  have C1 := Lib.hid (HC.out.step (below_new W0 (.cells (cints los) 56)))
  have B1 := Lib.hid (HB.out.trans ((below_new W0 (.cells (cints los) 56)).mono (by rw [← HP.out]; exact HB.out.size)))
  obtain ⟨W1, hW1⟩ : ∃ W1, W0.alloc (.cells (cints los) 56) = W1 := ⟨_, rfl⟩
  rw [hW1] at L1 C1 B1 ⊢; clear hW1 HC HB
  generalize W0.heap.size = p3 at *
  go_upto_region 3 with (first | (refine wpList_build_as rfl 56 _ rfl (cints his) (by kernel_rfl) ?_) | (refine wpList_store_row rfl 56 _ _ rfl _ (cints his) rfl rfl 56 _ (heap_alloc_new _ _) (size40 rfl) rfl (cints_one _) ?_; rw [World.setRow_alloc_new]))
  have L2 := Lib.hid (L1.out.step (below_new W1 (.cells (cints his) 56)))
  have H2 := Lib.hid (IAt.new W1 his)
  have C2 := Lib.hid (C1.out.step (below_new W1 (.cells (cints his) 56)))
  have B2 := Lib.hid (B1.out.trans ((below_new W1 (.cells (cints his) 56)).mono (by rw [← HP.out]; exact B1.out.size)))
  obtain ⟨W2, hW2⟩ : ∃ W2, W1.alloc (.cells (cints his) 56) = W2 := ⟨_, rfl⟩
  rw [hW2] at L2 H2 C2 B2 ⊢; clear hW2 L1 C1 B1
  generalize W1.heap.size = p4 at *
  go_wp2_with (refine wpList_load_row rfl 24 _ rfl _ rfl 24 c.cells (0, 0) _ C2.out Try.underlying24 rfl (size24 c) ?_)
  refine (CL.out _).mono ?_
  rintro e w3 ⟨rfl, hb⟩
  have L3 := Lib.hid (L2.out.step hb); have H3 := Lib.hid (H2.out.step hb)
  have B3 := Lib.hid (B2.out.trans (hb.mono (by rw [← HP.out]; exact B2.out.size)))
  clear hb L2 H2 C2 B2
  go_upto_region 4 with (refine wpList_store_row rfl 56 _ _ rfl _ (cints c.n) rfl rfl 56 _ (heap_alloc_new _ _) (size40 H17.out) (by rw [cints_size c.n, H17.out]; rfl) (cints_one _) ?_; rw [World.setRow_alloc_new])
  have st : GSt w (w3.alloc (.cells (cints c.n) 56)) p3 p4 w3.heap.size c := by
    have hn := below_new w3 (.cells (cints c.n) 56)
    exact ⟨L3.out.step hn, H3.out.step hn, IAt.new w3 c.n, HP.out.symm ▸ B3.out.trans (hn.mono (by rw [← HP.out]; exact B3.out.size))⟩
  have ST := Lib.hid st; clear st L3 H3 B3
  obtain ⟨W4, hW4⟩ : ∃ W4, w3.alloc (.cells (cints c.n) 56) = W4 := ⟨_, rfl⟩
  rw [hW4] at ST ⊢; clear hW4
  generalize w3.heap.size = p5 at *
  go_wp2_with fail
  go_loopg [6] 17 (fun gh s6 wx => ∃ j : Nat, j ≤ 17 ∧ gh = 17 - j ∧ s6 = .int .i64 (j : Int) ∧ GSt w wx p3 p4 p5 c ∧ okTo c j = true)
  case atStart => exact ⟨0, Nat.zero_le _, rfl, rfl, ST.out, rfl⟩
  case round =>
    obtain ⟨j, hj, hg, rfl, hst, hok⟩ := hrel
    have HG := Lib.hid hg; have HS := Lib.hid hst; have HOK := Lib.hid hok; clear hg ST hok
    by_cases hlt : j < 17
    · have k1 : wr.cell? ⟨p3, j, none⟩ = some (.int .i64 (lo j)) := hst.l.get (k := j) (by simpa [los] using hlt)
      have k2 : wr.cell? ⟨p4, j, none⟩ = some (.int .i64 (hi j)) := hst.h.get (k := j) (by simpa [his] using hlt)
      have k3 : wr.cell? ⟨p5, j, none⟩ = some (.int .i64 (c.get j)) := hst.n.get (k := j) (by rw [H17.out]; exact hlt)
      have b0 : (0 : Int) ≤ (j : Int) := by omega
      have b1 : (j : Int) < 17 := by omega
      clear hst
      by_cases h1 : c.get j < lo j
      · have HR := Lib.hid (okc_false (c := c) hlt (by simp [okAt]; omega))
        have d1 : decide (c.get j < lo j) = true := by simpa using h1
        generalize c.get j = y at *
        generalize lo j = l1 at *
        generalize hi j = l2 at *
        go_wp2_with fail
        go_quiet (fail)
        go_wp2_with fail
        go_ret
        exact ⟨ret_bool HR.out.symm, below_drewN HS.out.bel _⟩
      · by_cases h2 : hi j < c.get j
        · have HR := Lib.hid (okc_false (c := c) hlt (by simp [okAt]; omega))
          have d1 : decide (c.get j < lo j) = false := by simpa using h1
          have d2 : decide (hi j < c.get j) = true := by simpa using h2
          generalize c.get j = y at *
          generalize lo j = l1 at *
          generalize hi j = l2 at *
          go_wp2_with fail
          go_quiet (fail)
          go_wp2_with fail
          go_ret
          exact ⟨ret_bool HR.out.symm, below_drewN HS.out.bel _⟩
        · have HN : Hid (okTo c (j + 1) = true) := Lib.hid (by rw [okTo_succ, HOK.out, okAt_iff.2 ⟨by omega, by omega⟩]; rfl)
          have d1 : decide (c.get j < lo j) = false := by simpa using h1
          have d2 : decide (hi j < c.get j) = false := by simpa using h2
          generalize c.get j = y at *
          generalize lo j = l1 at *
          generalize hi j = l2 at *
          go_wp2_with fail
          go_quiet (fail)
          go_wp2_with fail
          go_roundg (17 - (j + 1))
          case measure => have := HG.out; omega
          case rel => exact ⟨j + 1, by omega, rfl, by go_num, HS.out.step (below_drewN (Below.refl _ _) _), HN.out⟩
    · obtain rfl : j = 17 := by omega
      have HR := Lib.hid (show okc c = true from HOK.out)
      clear hst
      go_wp2_with fail
      go_ret
      exact ⟨ret_bool HR.out.symm, HS.out.bel⟩
end Go.Proofs.Ytepfgheliddpmaa
