/- The number of a name, and another one. -/
import Derived.Test.YthnjghkloodblaaFind
import Derived.Laws.Rows
import Derived.Laws.CopyOwn
import Derived.Deep.WholeRow
namespace Go.Proofs.Ythnjghkloodblaa
open Go.RowKit Go.Lib
set_option linter.unusedVariables false

theorem size24 (c : Cfg) : (Try.prog.info? 24).map (·.size) = some c.cells.size := by rw [c.size]; kernel_rfl
theorem Cfg.one (c : Cfg) : c.cells.all (·.oneCell') = true := by
  rw [← Array.all_toList, List.all_eq_true]
  intro x hx
  simp [Cfg.cells] at hx
  rcases hx with ⟨a, _, rfl⟩ | rfl <;> rfl
/-- a configuration lies in a block -/
abbrev CAt (w : World) (p : Nat) (c : Cfg) : Prop := At w p 24 c.cells
theorem CAt.get {w : World} {p : Nat} {c : Cfg} (h : CAt w p c) {k : Nat} (hk : k < 17) : w.cell? ⟨p, k, none⟩ = some (.int .i64 (c.get k)) := by rw [At.cell h, c.at_ hk]
theorem CAt.sec {w : World} {p : Nat} {c : Cfg} (h : CAt w p c) : w.cell? ⟨p, 17, none⟩ = some (.int .u32 c.s) := by rw [At.cell h, c.atS]
theorem CAt.step {w w' : World} {p : Nat} {c : Cfg} (h : CAt w p c) (hb : Below w.heap.size w w') : CAt w' p c := At.below h hb (At.lt h)
theorem CAt.new (w : World) (c : Cfg) : CAt (w.alloc (.cells c.cells 24)) w.heap.size c := At.new w 24 _
theorem CAt.load {w : World} {p : Nat} {c : Cfg} (h : CAt w p c) : (loadVar 24 ⟨p, 0, none⟩).run Try.prog w = .ok c.V w := run_loadVar_row w p 24 24 c.cells (0, 0) _ h Try.underlying24 rfl (size24 c)
set_option maxRecDepth 100000 in
set_option maxHeartbeats 1000000 in
theorem get_yes (c : Cfg) (s : ByteArray) (w : World) (hs : idx s < 17) : Calls Try.prog 18 #[c.V, .string s] w fun e w' => e = .returned (.tuple #[.int .i64 (c.get (idx s)), .bool true]) ∧ Below w.heap.size w w' := by
  have CF := Lib.hid (find_yes w.heap.size s (w.alloc (.cells c.cells 24)) hs)
  have HC := Lib.hid (fun W (hb : Below (w.alloc (.cells c.cells 24)).heap.size (w.alloc (.cells c.cells 24)) W) => ((CAt.new w c).step hb).get hs)
  have HB := Lib.hid (below_new w (.cells c.cells 24))
  unfold Cfg.V
  generalize c.cells = A at *
  generalize c.get (idx s) = x at *
  generalize idx s = k at *
  clear hs
  go_enter Try.func18, Try.ntmps18
  go_wp2_with fail
  refine CF.out.mono ?_
  rintro e w1 ⟨rfl, hb⟩
  have hc := HC.out w1 hb
  go_wp2_with fail
  go_ret2
  exact ⟨rfl, HB.out.trans (hb.mono HB.out.size)⟩
set_option maxRecDepth 100000 in
set_option maxHeartbeats 1000000 in
theorem get_no (c : Cfg) (s : ByteArray) (w : World) (hs : idx s = 17) : Calls Try.prog 18 #[c.V, .string s] w fun e w' => e = .returned (.tuple #[.int .i64 0, .bool false]) ∧ Below w.heap.size w w' := by
  have CF := Lib.hid (find_no w.heap.size s (w.alloc (.cells c.cells 24)) hs)
  have HB := Lib.hid (below_new w (.cells c.cells 24))
  unfold Cfg.V
  generalize c.cells = A at *
  clear hs
  go_enter Try.func18, Try.ntmps18
  go_wp2_with fail
  refine CF.out.mono ?_
  rintro e w1 ⟨rfl, hb⟩
  go_wp2_with fail
  go_ret2
  exact ⟨rfl, HB.out.trans (hb.mono HB.out.size)⟩
def zc : Cfg := ⟨List.replicate 17 0, 0, rfl⟩
theorem results19 {tmps : Array Value} {w : World} {q : Nat} {d : Cfg} {b : Bool} (h6 : tmps.getD 6 undef = ptr q 0) (h7 : tmps.getD 7 undef = .bool b) (hq : CAt w q d) : (results Try.f19 tmps).run Try.prog w = .ok (.tuple #[d.V, .bool b]) w := by
  rw [Array.getD_eq_getD_getElem?] at h6 h7
  simp [results, Try.results19, h6, h7, asAddr, CAt.load hq]
theorem CAt.setRow {w : World} {q : Nat} {c : Cfg} (h : CAt w q c) (d : Cfg) : CAt (w.setRow q d.cells) q d := setRow_heap w q c.cells d.cells 24 (0, 0) h
set_option maxRecDepth 100000 in
set_option maxHeartbeats 1000000 in
theorem set_no (c : Cfg) (s : ByteArray) (x : Int) (w : World) (hs : idx s = 17) : Calls Try.prog 19 #[c.V, .string s, .int .i64 x] w fun e w' => e = .returned (.tuple #[c.V, .bool false]) ∧ Below w.heap.size w w' := by
  have CF := Lib.hid (find_no w.heap.size s ((w.alloc (.cells c.cells 24)).alloc (.cells zc.cells 24)) hs)
  have HB := Lib.hid (((Below.refl w.heap.size w).alloc (Nat.le_refl _) (.cells c.cells 24)).alloc (by simp) (.cells zc.cells 24))
  have HA := Lib.hid ((CAt.new w c).step (below_new _ (.cells zc.cells 24)))
  have HZ := Lib.hid (CAt.new (w.alloc (.cells c.cells 24)) zc)
  have HS := Lib.hid (show (w.alloc (.cells c.cells 24)).heap.size = w.heap.size + 1 by simp)
  clear hs
  go_enter Try.func19, Try.ntmps19
  go_wp2_with fail
  refine CF.out.mono ?_
  rintro e w1 ⟨rfl, hb⟩
  have A1 := Lib.hid (HA.out.step hb); have Z1 := Lib.hid (HZ.out.step hb)
  rw [HS.out] at Z1
  have B1 := Lib.hid (HB.out.trans (hb.mono HB.out.size))
  have hle : w.heap.size ≤ w.heap.size + 1 := by omega
  have ZL := Lib.hid hle
  clear hb CF HB HA HZ HS hle
  generalize w.heap.size + 1 = q at *
  generalize hp : w.heap.size = p at *
  have HP := Lib.hid hp; clear hp
  go_wp2_with (first | (refine wpList_load_row rfl 24 _ rfl _ rfl 24 c.cells (0, 0) _ A1.out Try.underlying24 rfl (size24 c) ?_) | (refine wpList_store_row rfl 24 _ _ rfl _ _ rfl rfl 24 _ Z1.out (size24 c) (by rw [zc.size, c.size]) c.one ?_))
  exact bodyPost_ret (results19 rfl rfl (CAt.setRow Z1.out c)) rfl ⟨rfl, HP.out.symm ▸ below_setRow B1.out ZL.out _⟩
set_option maxRecDepth 100000 in
set_option maxHeartbeats 1000000 in
theorem set_yes (c : Cfg) (s : ByteArray) (x : Int) (w : World) (hs : idx s < 17) : Calls Try.prog 19 #[c.V, .string s, .int .i64 x] w fun e w' => e = .returned (.tuple #[(c.set (idx s) x).V, .bool true]) ∧ Below w.heap.size w w' := by
  have CF := Lib.hid (find_yes w.heap.size s ((w.alloc (.cells c.cells 24)).alloc (.cells zc.cells 24)) hs)
  have HB := Lib.hid (((Below.refl w.heap.size w).alloc (Nat.le_refl _) (.cells c.cells 24)).alloc (by simp) (.cells zc.cells 24))
  have HA := Lib.hid ((CAt.new w c).step (below_new _ (.cells zc.cells 24)))
  have HZ := Lib.hid (CAt.new (w.alloc (.cells c.cells 24)) zc)
  have HS := Lib.hid (show (w.alloc (.cells c.cells 24)).heap.size = w.heap.size + 1 by simp)
  generalize idx s = k at *
  go_enter Try.func19, Try.ntmps19
  go_wp2_with fail
  refine CF.out.mono ?_
  rintro e w1 ⟨rfl, hb⟩
  have A1 := Lib.hid (HA.out.step hb); have Z1 := Lib.hid (HZ.out.step hb)
  rw [HS.out] at Z1
  have B1 := Lib.hid (HB.out.trans (hb.mono HB.out.size))
  have hle : w.heap.size ≤ w.heap.size ∧ w.heap.size ≤ w.heap.size + 1 := by omega
  have hne : w.heap.size + 1 ≠ w.heap.size := by omega
  have ZL := Lib.hid hle; have HNE := Lib.hid hne
  clear hb CF HB HA HZ HS hle hne
  generalize w.heap.size + 1 = q at *
  generalize hp : w.heap.size = p at *
  have HP := Lib.hid hp; clear hp
  have A2 : CAt (w1.setCell ⟨p, k, none⟩ (.int .i64 x)) p (c.set k x) := by
    have := At.set A1.out k (.int .i64 x)
    rw [← c.cells_set hs] at this
    exact this
  have Z2 : CAt (w1.setCell ⟨p, k, none⟩ (.int .i64 x)) q zc := At.far Z1.out HNE.out _
  have B2 : Below p w (w1.setCell ⟨p, k, none⟩ (.int .i64 x)) := B1.out.setCell ZL.out.1 _
  have A2 := Lib.hid A2; have Z2 := Lib.hid Z2; have B2 := Lib.hid B2
  have hc := A1.out.get hs
  have hf := At.frozen A1.out k
  have D := Lib.hid (And.intro (size24 (c.set k x)) (c.set k x).one)
  have DS := Lib.hid (c.set k x).size
  clear A1 Z1 B1 HNE
  generalize hd : c.set k x = d at *
  have HD := Lib.hid hd; clear hd
  clear hs
  go_wp2_with (first | (refine wpList_load_row rfl 24 _ rfl _ rfl 24 d.cells (0, 0) _ A2.out Try.underlying24 rfl D.out.1 ?_) | (refine wpList_store_row rfl 24 _ _ rfl _ _ rfl rfl 24 _ Z2.out D.out.1 (by rw [zc.size, DS.out]) D.out.2 ?_))
  exact bodyPost_ret (results19 rfl rfl (CAt.setRow Z2.out d)) rfl ⟨HD.out ▸ rfl, HP.out.symm ▸ below_setRow B2.out ZL.out.2 _⟩
end Go.Proofs.Ythnjghkloodblaa
