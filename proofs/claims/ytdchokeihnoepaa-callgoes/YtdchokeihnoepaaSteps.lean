/- The steps that could lead to a call: what they hold, and what each does. -/
import Derived.Test.YtdchokeihnoepaaNewB
namespace Go.Proofs.Ytdchokeihnoepaa
open Go.RowKit Go.Lib
set_option linter.unusedVariables false
set_option linter.unusedSimpArgs false

/-- the number of a step's function, and what it holds -/
def fnum (j : Nat) : Nat := [26, 27, 28, 9, 10, 11, 12].getD j 0
def caps (g p j : Nat) : Array Value := ([#[ptr g 0, ptr p 0], #[ptr g 0, ptr p 0], #[ptr g 0]] : List (Array Value)).getD j #[]
def stepV (g p j : Nat) : Value := .func (.func (fnum j)) #[] (caps g p j)
def STP (g p : Nat) : Array Value := ((List.range 7).map (stepV g p)).toArray
def stepK (c : Cfg) (a b : K) (j : Nat) : K × Int := [assignK c a b.car, leaveK c a b.frm, leaveK c a 1, boardK a, serveK a, cancelK a, expireK a].getD j (zk, 0)
theorem STP_at (g p : Nat) {j : Nat} (h : j < 7) : (STP g p)[j]? = some (.func (.func (fnum j)) #[] (caps g p j)) := by
  simp [STP, stepV, h]
set_option maxRecDepth 100000 in
set_option maxHeartbeats 2000000 in
theorem steps_any (c : Cfg) (b : K) (w : World) : Calls Try.prog 23 #[c.V, b.V] w fun e w' => e = .returned (.slice (some ⟨w.heap.size + 1 + 1, 0, none⟩) 7 7) ∧ w' = ((w.alloc (.cells c.cells 24)).alloc (.cells b.cells 26)).alloc (.cells (STP w.heap.size (w.heap.size + 1)) 47) := by
  go_enter Try.func23, Try.ntmps23
  go_wp2_with fail
  go_ret
  exact ⟨rfl, rfl⟩
set_option maxRecDepth 100000 in
set_option maxHeartbeats 2000000 in
theorem cap0_any (c : Cfg) (a b : K) (g p : Nat) (w : World) (hc : CAt w g c) (hp : KAt w p b) : Calls Try.prog 26 #[a.V, ptr g 0, ptr p 0] w (Ans w (assignK c a b.car)) := by
  have HT := Lib.hid (Two.new w a)
  have HC0 := Lib.hid ((hc.step (below_new w (.cells a.cells 26))).step (below_new _ (.cells Z8 26)))
  have HP0 := Lib.hid ((hp.step (below_new w (.cells a.cells 26))).step (below_new _ (.cells Z8 26)))
  clear hc hp
  have CC := Lib.hid (fun W => assign_any c a b.car W)
  generalize hr : assignK c a b.car = r at *
  have HR := Lib.hid hr; clear hr
  go_enter Try.func26, Try.ntmps26
  go_upto_region 1 with fail
  obtain ⟨W, hW⟩ : ∃ W, (w.alloc (.cells a.cells 26)).alloc (.cells Z8 26) = W := ⟨_, rfl⟩
  rw [hW] at HT HC0 HP0 ⊢; clear hW
  generalize w.heap.size + 1 = q at HT ⊢
  generalize w.heap.size = u at HT ⊢
  have HA := Lib.hid HT.out.at_; have HC := HC0
  have kx := HP0.out.get4
  go_wp2_with (first | ((with_reducible apply wpList_load_cat (h := HC.out)); exact rfl; exact rfl; exact rfl) | ((with_reducible apply wpList_load_kat (h := HA.out)); exact rfl; exact rfl; exact rfl))
  refine (CC.out _).mono ?_
  rintro e w1 ⟨rfl, hb⟩
  have H4 := Lib.hid (HT.out.step hb); clear hb HT HA HC HC0 HP0 kx
  obtain ⟨d, m⟩ := r
  obtain ⟨z, hz⟩ := H4.out.ans
  have HZ := Lib.hid hz; clear hz
  go_wp2_with ((with_reducible apply wpList_store_kat (c := d) (hq := HZ.out)); exact rfl; exact rfl; exact rfl; exact rfl)
  exact bodyPost_ret (results_pair Try.results26 rfl rfl (H4.out.out d).1) rfl (H4.out.fin rfl)
set_option maxRecDepth 100000 in
set_option maxHeartbeats 2000000 in
theorem cap1_any (c : Cfg) (a b : K) (g p : Nat) (w : World) (hc : CAt w g c) (hp : KAt w p b) : Calls Try.prog 27 #[a.V, ptr g 0, ptr p 0] w (Ans w (leaveK c a b.frm)) := by
  have HT := Lib.hid (Two.new w a)
  have HC0 := Lib.hid ((hc.step (below_new w (.cells a.cells 26))).step (below_new _ (.cells Z8 26)))
  have HP0 := Lib.hid ((hp.step (below_new w (.cells a.cells 26))).step (below_new _ (.cells Z8 26)))
  clear hc hp
  have CC := Lib.hid (fun W => leave_any c a b.frm W)
  generalize hr : leaveK c a b.frm = r at *
  have HR := Lib.hid hr; clear hr
  go_enter Try.func27, Try.ntmps27
  go_upto_region 1 with fail
  obtain ⟨W, hW⟩ : ∃ W, (w.alloc (.cells a.cells 26)).alloc (.cells Z8 26) = W := ⟨_, rfl⟩
  rw [hW] at HT HC0 HP0 ⊢; clear hW
  generalize w.heap.size + 1 = q at HT ⊢
  generalize w.heap.size = u at HT ⊢
  have HA := Lib.hid HT.out.at_; have HC := HC0
  have kx := HP0.out.get2
  go_wp2_with (first | ((with_reducible apply wpList_load_cat (h := HC.out)); exact rfl; exact rfl; exact rfl) | ((with_reducible apply wpList_load_kat (h := HA.out)); exact rfl; exact rfl; exact rfl))
  refine (CC.out _).mono ?_
  rintro e w1 ⟨rfl, hb⟩
  have H4 := Lib.hid (HT.out.step hb); clear hb HT HA HC HC0 HP0 kx
  obtain ⟨d, m⟩ := r
  obtain ⟨z, hz⟩ := H4.out.ans
  have HZ := Lib.hid hz; clear hz
  go_wp2_with ((with_reducible apply wpList_store_kat (c := d) (hq := HZ.out)); exact rfl; exact rfl; exact rfl; exact rfl)
  exact bodyPost_ret (results_pair Try.results27 rfl rfl (H4.out.out d).1) rfl (H4.out.fin rfl)
set_option maxRecDepth 100000 in
set_option maxHeartbeats 2000000 in
theorem cap2_any (c : Cfg) (a b : K) (g p : Nat) (w : World) (hc : CAt w g c) (hp : KAt w p b) : Calls Try.prog 28 #[a.V, ptr g 0] w (Ans w (leaveK c a 1)) := by
  have HT := Lib.hid (Two.new w a)
  have HC0 := Lib.hid ((hc.step (below_new w (.cells a.cells 26))).step (below_new _ (.cells Z8 26)))
  have HP0 := Lib.hid ((hp.step (below_new w (.cells a.cells 26))).step (below_new _ (.cells Z8 26)))
  clear hc hp
  have CC := Lib.hid (fun W => leave_any c a 1 W)
  generalize hr : leaveK c a 1 = r at *
  have HR := Lib.hid hr; clear hr
  go_enter Try.func28, Try.ntmps28
  go_upto_region 1 with fail
  obtain ⟨W, hW⟩ : ∃ W, (w.alloc (.cells a.cells 26)).alloc (.cells Z8 26) = W := ⟨_, rfl⟩
  rw [hW] at HT HC0 HP0 ⊢; clear hW
  generalize w.heap.size + 1 = q at HT ⊢
  generalize w.heap.size = u at HT ⊢
  have HA := Lib.hid HT.out.at_; have HC := HC0
  have kx := HP0.out.get2
  go_wp2_with (first | ((with_reducible apply wpList_load_cat (h := HC.out)); exact rfl; exact rfl; exact rfl) | ((with_reducible apply wpList_load_kat (h := HA.out)); exact rfl; exact rfl; exact rfl))
  refine (CC.out _).mono ?_
  rintro e w1 ⟨rfl, hb⟩
  have H4 := Lib.hid (HT.out.step hb); clear hb HT HA HC HC0 HP0 kx
  obtain ⟨d, m⟩ := r
  obtain ⟨z, hz⟩ := H4.out.ans
  have HZ := Lib.hid hz; clear hz
  go_wp2_with ((with_reducible apply wpList_store_kat (c := d) (hq := HZ.out)); exact rfl; exact rfl; exact rfl; exact rfl)
  exact bodyPost_ret (results_pair Try.results28 rfl rfl (H4.out.out d).1) rfl (H4.out.fin rfl)
theorem step_any (c : Cfg) (a b : K) (g p : Nat) (w : World) (hc : CAt w g c) (hp : KAt w p b) (j : Nat) (hj : j < 7) : Calls Try.prog (fnum j) (#[a.V] ++ caps g p j) w (Ans w (stepK c a b j)) := by
  match j, hj with
  | 0, _ => exact cap0_any c a b g p w hc hp
  | 1, _ => exact cap1_any c a b g p w hc hp
  | 2, _ => exact cap2_any c a b g p w hc hp
  | 3, _ => exact board_any a w
  | 4, _ => exact serve_any a w
  | 5, _ => exact cancel_any a w
  | 6, _ => exact expire_any a w
  | n + 7, h => exact absurd h (by omega)
theorem call_step (j : Nat) (hj : j < 7) (args : Array Value) (W : World) : (callFunc (fnum j) args).run Try.prog W = .ok (.enter (fnum j) args) W := by
  match j, hj with
  | 0, _ => rfl
  | 1, _ => rfl
  | 2, _ => rfl
  | 3, _ => rfl
  | 4, _ => rfl
  | 5, _ => rfl
  | 6, _ => rfl
  | n + 7, h => exact absurd h (by omega)
end Go.Proofs.Ytdchokeihnoepaa
