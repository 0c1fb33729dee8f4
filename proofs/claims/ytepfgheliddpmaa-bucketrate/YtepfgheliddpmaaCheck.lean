/- Whether a configuration can be. -/
import Derived.Test.YtepfgheliddpmaaGetSet
namespace Go.Proofs.Ytepfgheliddpmaa
open Go.RowKit Go.Lib
set_option linter.unusedVariables false

/-- the state of a round of Check -/
structure KSt (w wx : World) (g : Nat) (c : Cfg) : Prop where
  at_ : At wx g 55 NUM
  cfg : CAt wx w.heap.size c
  bel : Below w.heap.size w wx
theorem KSt.step {w wx wy : World} {g : Nat} {c : Cfg} (h : KSt w wx g c) (hb : Below wx.heap.size wx wy) : KSt w wy g c := ⟨h.at_.below hb h.at_.lt, h.cfg.step hb, h.bel.trans (hb.mono h.bel.size)⟩
theorem ret_int {k : IntKind} {a b : Int} (h : a = b) : Ending.returned (.int k a) = .returned (.int k b) := by rw [h]
def chk (c : Cfg) : Int := if okc c = true then 0 else 3
theorem chk_ok {c : Cfg} (h : okc c = true) : chk c = 0 := if_pos h
theorem chk_no {c : Cfg} (h : okc c = false) : chk c = 3 := if_neg (by rw [h]; decide)
set_option maxRecDepth 100000 in
set_option maxHeartbeats 1000000 in
theorem check_any (c : Cfg) (w : World) : Calls Try.prog 16 #[c.V] w fun e w' => e = .returned (.int .i64 (chk c)) ∧ Below w.heap.size w w' := by
  have CN := Lib.hid numbers_any
  have hsf := store_fn
  have hst : KSt w ((w.alloc (.cells c.cells 24)).alloc (.cells NUM 55)) (w.alloc (.cells c.cells 24)).heap.size c := ⟨At.new _ _ _, (CAt.new w c).step (below_new _ _), (below_new w _).alloc (by simp) _⟩
  have HST := Lib.hid hst; clear hst
  go_enter Try.func16, Try.ntmps16
  go_wp2_with fail
  refine (CN.out _).mono ?_
  rintro e w0 ⟨rfl, rfl⟩
  obtain ⟨W, hW⟩ : ∃ W, (w.alloc (.cells c.cells 24)).alloc (.cells NUM 55) = W := ⟨_, rfl⟩
  rw [hW] at HST ⊢; clear hW
  generalize (w.alloc (.cells c.cells 24)).heap.size = g at HST ⊢
  go_wp2_with fail
  go_loopg [8] 17 (fun gh s8 wx => ∃ j : Nat, j ≤ 17 ∧ gh = 17 - j ∧ s8 = .int .i64 (j : Int) ∧ KSt w wx g c ∧ okTo c j = true)
  case atStart => exact ⟨0, Nat.zero_le _, rfl, rfl, HST.out, rfl⟩
  case round =>
    obtain ⟨j, hj, hg, rfl, hst, hok⟩ := hrel
    have HG := Lib.hid hg; have HS := Lib.hid hst; have HOK := Lib.hid hok; clear hg HST hok
    by_cases hlt : j < 17
    · obtain ⟨k0, k1, k2, k3⟩ := num_cells hst.at_ hlt
      have kc := hst.cfg.get hlt
      have hlp := hst.cfg.lt
      clear hst
      have CP := Lib.hid (fun W => place_any w.heap.size W j hlt)
      have hcf := call_fn j hlt
      generalize 24 + j = f at *
      generalize nm j = x at *
      by_cases h1 : c.get j < lo j
      · have HR := Lib.hid (chk_no (okc_false (c := c) hlt (by simp [okAt]; omega)))
        have d1 : decide (c.get j < lo j) = true := by simpa using h1
        generalize c.get j = y at *
        generalize lo j = l1 at *
        generalize hi j = l2 at *
        generalize w.heap.size = p at *
        go_wp2_with fail
        refine (CP.out _).mono ?_
        rintro e w1 ⟨rfl, rfl⟩
        go_wp2_with fail
        go_ret
        exact ⟨ret_int HR.out.symm, HS.out.bel.trans ((below_new _ _).mono HS.out.bel.size)⟩
      · by_cases h2 : hi j < c.get j
        · have HR := Lib.hid (chk_no (okc_false (c := c) hlt (by simp [okAt]; omega)))
          have d1 : decide (c.get j < lo j) = false := by simpa using h1
          have d2 : decide (hi j < c.get j) = true := by simpa using h2
          generalize c.get j = y at *
          generalize lo j = l1 at *
          generalize hi j = l2 at *
          generalize w.heap.size = p at *
          go_wp2_with fail
          refine (CP.out _).mono ?_
          rintro e w1 ⟨rfl, rfl⟩
          go_wp2_with fail
          go_ret
          exact ⟨ret_int HR.out.symm, HS.out.bel.trans ((below_new _ _).mono HS.out.bel.size)⟩
        · have HN : Hid (okTo c (j + 1) = true) := Lib.hid (by rw [okTo_succ, HOK.out, okAt_iff.2 ⟨by omega, by omega⟩]; rfl)
          have d1 : decide (c.get j < lo j) = false := by simpa using h1
          have d2 : decide (hi j < c.get j) = false := by simpa using h2
          generalize c.get j = y at *
          generalize lo j = l1 at *
          generalize hi j = l2 at *
          generalize hp : w.heap.size = p at *
          have HP := Lib.hid hp; clear hp
          go_wp2_with fail
          refine (CP.out _).mono ?_
          rintro e w1 ⟨rfl, rfl⟩
          go_wp2_with fail
          go_roundg (17 - (j + 1))
          case measure => have := HG.out; omega
          case rel => exact ⟨j + 1, by omega, rfl, by go_num, HS.out.step (below_new _ _), HN.out⟩
    · obtain rfl : j = 17 := by omega
      have HR := Lib.hid (chk_ok (show okc c = true from HOK.out))
      clear hst
      go_wp2_with fail
      go_ret
      exact ⟨ret_int HR.out.symm, HS.out.bel⟩
end Go.Proofs.Ytepfgheliddpmaa
