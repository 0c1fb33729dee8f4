/- Another number, by its name. -/
import Derived.Test.YtepfgheliddpmaaCheck
namespace Go.Proofs.Ytepfgheliddpmaa
open Go.RowKit Go.Lib
set_option linter.unusedVariables false

/-- the state of a round over the table -/
structure NSt (w W wx : World) (g : Nat) : Prop where
  at_ : At wx g 55 NUM
  bel : Below w.heap.size w wx
theorem NSt.step {w W wx wy : World} {g : Nat} (h : NSt w W wx g) (hb : Below wx.heap.size wx wy) : NSt w W wy g := ⟨h.at_.below hb h.at_.lt, h.bel.trans (hb.mono h.bel.size)⟩
set_option maxRecDepth 100000 in
set_option maxHeartbeats 1000000 in
theorem find_yes (p : Nat) (s : ByteArray) (w : World) (hs : idx s < 17) : Calls Try.prog 21 #[ptr p 0, .string s] w fun e w' => e = .returned (ptr p (idx s)) ∧ Below w.heap.size w w' := by
  have CN := Lib.hid numbers_any
  have hsf := store_fn
  have HI := Lib.hid (idx_lt hs)
  have HNO := Lib.hid (fun j (h : j < idx s) => idx_not h)
  generalize idx s = m at *
  go_enter Try.func21, Try.ntmps21
  go_wp2_with fail
  refine (CN.out _).mono ?_
  rintro e w0 ⟨rfl, rfl⟩
  have hst : NSt w (w.alloc (.cells NUM 55)) (w.alloc (.cells NUM 55)) w.heap.size := ⟨At.new _ _ _, below_new _ _⟩
  have HST := Lib.hid hst; clear hst
  obtain ⟨W, hW⟩ : ∃ W, w.alloc (.cells NUM 55) = W := ⟨_, rfl⟩
  rw [hW] at HST ⊢; clear hW
  generalize w.heap.size = g at HST ⊢
  go_wp2_with fail
  go_loopg [9] 17 (fun gh s9 wx => ∃ j : Nat, j ≤ m ∧ gh = 17 - j ∧ s9 = .int .i64 (j : Int) ∧ NSt w W wx g)
  case atStart => exact ⟨0, Nat.zero_le _, rfl, rfl, HST.out⟩
  case round =>
    obtain ⟨j, hj, hg, rfl, hst⟩ := hrel
    have HG := Lib.hid hg; clear hg
    have hlt : j < 17 := by omega
    obtain ⟨k0, k1, k2, k3⟩ := num_cells hst.at_ hlt
    have HS := Lib.hid hst; clear hst HST
    by_cases hm : j = m
    · subst hm
      have e := HI.out
      rw [e] at k0
      have CP := Lib.hid (fun W => place_any p W j hlt)
      have hcf := call_fn j hlt
      generalize 24 + j = f at *
      go_wp2_with fail
      refine (CP.out _).mono ?_
      rintro e w1 ⟨rfl, rfl⟩
      go_wp2_with fail
      go_ret
      exact ⟨rfl, HS.out.bel.trans ((below_new _ _).mono HS.out.bel.size)⟩
    · have hne : nm j ≠ s := HNO.out j (by omega)
      have hb : ((nm j).toList == s.toList) = false := text_ne hne
      have hb' : decide (nm j = s) = false := by simpa using hne
      generalize nm j = x at *
      generalize 24 + j = f at *
      generalize lo j = l1 at *
      generalize hi j = l2 at *
      go_wp2_with fail
      go_roundg (17 - (j + 1))
      case measure => have := HG.out; omega
      case rel => exact ⟨j + 1, by omega, rfl, by go_num, HS.out.step (below_new _ _)⟩
theorem results19 {tmps : Array Value} {w : World} {q : Nat} {d : Cfg} {b : Bool} (h6 : tmps.getD 6 undef = ptr q 0) (h7 : tmps.getD 7 undef = .bool b) (hq : CAt w q d) : (results Try.f14 tmps).run Try.prog w = .ok (.tuple #[d.V, .bool b]) w := by
  rw [Array.getD_eq_getD_getElem?] at h6 h7
  simp [results, Try.results14, h6, h7, asAddr, CAt.load hq]
set_option maxRecDepth 100000 in
set_option maxHeartbeats 1000000 in
theorem set_yes (c : Cfg) (s : ByteArray) (x : Int) (w : World) (hs : idx s < 17) : Calls Try.prog 14 #[c.V, .string s, .int .i64 x] w fun e w' => e = .returned (.tuple #[(c.set (idx s) x).V, .bool true]) ∧ Below w.heap.size w w' := by
  have CF := Lib.hid (find_yes w.heap.size s ((w.alloc (.cells c.cells 24)).alloc (.cells zc.cells 24)) hs)
  have HB := Lib.hid (((Below.refl w.heap.size w).alloc (Nat.le_refl _) (.cells c.cells 24)).alloc (by simp) (.cells zc.cells 24))
  have HA := Lib.hid ((CAt.new w c).step (below_new _ (.cells zc.cells 24)))
  have HZ := Lib.hid (CAt.new (w.alloc (.cells c.cells 24)) zc)
  have HS := Lib.hid (show (w.alloc (.cells c.cells 24)).heap.size = w.heap.size + 1 by simp)
  generalize idx s = k at *
  go_enter Try.func14, Try.ntmps14
  go_wp2_with fail
  refine CF.out.mono ?_
  rintro e w1 ⟨rfl, hb⟩
  have A1 := Lib.hid (HA.out.step hb); have Z1 := Lib.hid (HZ.out.step hb)
  rw [HS.out] at Z1
  have B1 := Lib.hid (HB.out.trans (hb.mono HB.out.size))
  have hle : w.heap.size ≤ w.heap.size ∧ w.heap.size ≤ w.heap.size + 1 := by omega
  have hne : w.heap.size + 1 ≠ w.heap.size := by omega
  have ZL := Lib.hid hle; have HNE := Lib.hid hne
  clear hb CF HB HA HZ HS hle hne
  generalize w.heap.size + 1 = q at *
  generalize hp : w.heap.size = p at *
  have HP := Lib.hid hp; clear hp
  have A2 : CAt (w1.setCell ⟨p, k, none⟩ (.int .i64 x)) p (c.set k x) := by
    have := At.set A1.out k (.int .i64 x)
    rw [← c.cells_set hs] at this
    exact this
  have Z2 : CAt (w1.setCell ⟨p, k, none⟩ (.int .i64 x)) q zc := At.far Z1.out HNE.out _
  have B2 : Below p w (w1.setCell ⟨p, k, none⟩ (.int .i64 x)) := B1.out.setCell ZL.out.1 _
  have A2 := Lib.hid A2; have Z2 := Lib.hid Z2; have B2 := Lib.hid B2
  have hc := A1.out.get hs
  have hf := At.frozen A1.out k
  have D := Lib.hid (And.intro (size24 (c.set k x)) (c.set k x).one)
  have DS := Lib.hid (c.set k x).size
  clear A1 Z1 B1 HNE
  generalize hd : c.set k x = d at *
  have HD := Lib.hid hd; clear hd
  clear hs
  go_wp2_with (first | (refine wpList_load_row rfl 24 _ rfl _ rfl 24 d.cells (0, 0) _ A2.out Try.underlying24 rfl D.out.1 ?_) | (refine wpList_store_row rfl 24 _ _ rfl _ _ rfl rfl 24 _ Z2.out D.out.1 (by rw [zc.size, DS.out]) D.out.2 ?_))
  exact bodyPost_ret (results19 rfl rfl (CAt.setRow Z2.out d)) rfl ⟨HD.out ▸ rfl, HP.out.symm ▸ below_setRow B2.out ZL.out.2 _⟩
end Go.Proofs.Ytepfgheliddpmaa
