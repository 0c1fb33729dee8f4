/- The place of the number of a name. -/
import Derived.Test.YthnjghkloodblaaNum
namespace Go.Proofs.Ythnjghkloodblaa
open Go.RowKit Go.Lib
set_option linter.unusedVariables false

theorem toList_inj {a b : ByteArray} (h : a.toList = b.toList) : a = b := by
  rw [ByteArray.toList_eq, ByteArray.toList_eq] at h
  cases a; cases b; simp at h; subst h; rfl
theorem text_ne {a b : ByteArray} (h : a ≠ b) : (a.toList == b.toList) = false := by
  rw [beq_eq_false_iff_ne]
  exact fun e => h (toList_inj e)
theorem below_new (w : World) (o : Obj) : Below w.heap.size w (w.alloc o) := (Below.refl _ _).alloc (Nat.le_refl _) _
/-- the four cells of a row -/
theorem num_cells {w : World} {g j : Nat} (h : At w g 52 NUM) (hj : j < 17) : w.cell? ⟨g, j * 4, none⟩ = some (.string (nm j)) ∧ w.cell? ⟨g, j * 4 + 1, none⟩ = some (.int .i64 (lo j)) ∧ w.cell? ⟨g, j * 4 + 2, none⟩ = some (.int .i64 (hi j)) ∧ w.cell? ⟨g, j * 4 + 3, none⟩ = some (.func (.func (24 + j)) #[] #[]) := by
  obtain ⟨h0, h1, h2, h3⟩ := NUM_at j hj
  rw [Nat.mul_comm j 4]
  exact ⟨by rw [h.cell]; exact h0, by rw [h.cell]; exact h1, by rw [h.cell]; exact h2, by rw [h.cell]; exact h3⟩
theorem store_fn : ∀ (fn : Fn) (x y : Array Value) (W : World) (a : Addr) (m : Mode), (store a (.func fn x y) m).run Try.prog W = stored Try.prog W a (.func fn x y) m := fun _ _ _ W a m => run_store _ W a _ m rfl
theorem call_fn (j : Nat) (hj : j < 17) (args : Array Value) (W : World) : (callFunc (24 + j) args).run Try.prog W = .ok (.enter (24 + j) args) W := by
  match j, hj with
  | 0, _ => rfl
  | 1, _ => rfl
  | 2, _ => rfl
  | 3, _ => rfl
  | 4, _ => rfl
  | 5, _ => rfl
  | 6, _ => rfl
  | 7, _ => rfl
  | 8, _ => rfl
  | 9, _ => rfl
  | 10, _ => rfl
  | 11, _ => rfl
  | 12, _ => rfl
  | 13, _ => rfl
  | 14, _ => rfl
  | 15, _ => rfl
  | 16, _ => rfl
  | n + 17, h => exact absurd h (by omega)
/-- the state of a round over the table -/
structure NSt (w W wx : World) (g : Nat) : Prop where
  at_ : At wx g 52 NUM
  bel : Below w.heap.size w wx
theorem NSt.step {w W wx wy : World} {g : Nat} (h : NSt w W wx g) (hb : Below wx.heap.size wx wy) : NSt w W wy g := ⟨h.at_.below hb h.at_.lt, h.bel.trans (hb.mono h.bel.size)⟩
set_option maxRecDepth 100000 in
set_option maxHeartbeats 1000000 in
theorem find_yes (p : Nat) (s : ByteArray) (w : World) (hs : idx s < 17) : Calls Try.prog 23 #[ptr p 0, .string s] w fun e w' => e = .returned (ptr p (idx s)) ∧ Below w.heap.size w w' := by
  have CN := Lib.hid numbers_any
  have hsf := store_fn
  have HI := Lib.hid (idx_lt hs)
  have HNO := Lib.hid (fun j (h : j < idx s) => idx_not h)
  generalize idx s = m at *
  go_enter Try.func23, Try.ntmps23
  go_wp2_with fail
  refine (CN.out _).mono ?_
  rintro e w0 ⟨rfl, rfl⟩
  have hst : NSt w (w.alloc (.cells NUM 52)) (w.alloc (.cells NUM 52)) w.heap.size := ⟨At.new _ _ _, below_new _ _⟩
  have HST := Lib.hid hst; clear hst
  obtain ⟨W, hW⟩ : ∃ W, w.alloc (.cells NUM 52) = W := ⟨_, rfl⟩
  rw [hW] at HST ⊢; clear hW
  generalize w.heap.size = g at HST ⊢
  go_wp2_with fail
  go_loopg [9] 17 (fun gh s9 wx => ∃ j : Nat, j ≤ m ∧ gh = 17 - j ∧ s9 = .int .i64 (j : Int) ∧ NSt w W wx g)
  case atStart => exact ⟨0, Nat.zero_le _, rfl, rfl, HST.out⟩
  case round =>
    obtain ⟨j, hj, hg, rfl, hst⟩ := hrel
    have HG := Lib.hid hg; clear hg
    have hlt : j < 17 := by omega
    obtain ⟨k0, k1, k2, k3⟩ := num_cells hst.at_ hlt
    have HS := Lib.hid hst; clear hst HST
    by_cases hm : j = m
    · subst hm
      have e := HI.out
      rw [e] at k0
      have CP := Lib.hid (fun W => place_any p W j hlt)
      have hcf := call_fn j hlt
      generalize 24 + j = f at *
      go_wp2_with fail
      refine (CP.out _).mono ?_
      rintro e w1 ⟨rfl, rfl⟩
      go_wp2_with fail
      go_ret
      exact ⟨rfl, HS.out.bel.trans ((below_new _ _).mono HS.out.bel.size)⟩
    · have hne : nm j ≠ s := HNO.out j (by omega)
      have hb : ((nm j).toList == s.toList) = false := text_ne hne
      have hb' : decide (nm j = s) = false := by simpa using hne
      generalize nm j = x at *
      generalize 24 + j = f at *
      generalize lo j = l1 at *
      generalize hi j = l2 at *
      go_wp2_with fail
      go_roundg (17 - (j + 1))
      case measure => have := HG.out; omega
      case rel => exact ⟨j + 1, by omega, rfl, by go_num, HS.out.step (below_new _ _)⟩
set_option maxRecDepth 100000 in
set_option maxHeartbeats 1000000 in
theorem find_no (p : Nat) (s : ByteArray) (w : World) (hs : idx s = 17) : Calls Try.prog 23 #[ptr p 0, .string s] w fun e w' => e = .returned (.pointer none) ∧ Below w.heap.size w w' := by
  have CN := Lib.hid numbers_any
  have hsf := store_fn
  have HNO := Lib.hid (fun j (h : j < 17) => idx_not (s := s) (by rw [hs]; exact h))
  clear hs
  go_enter Try.func23, Try.ntmps23
  go_wp2_with fail
  refine (CN.out _).mono ?_
  rintro e w0 ⟨rfl, rfl⟩
  have hst : NSt w (w.alloc (.cells NUM 52)) (w.alloc (.cells NUM 52)) w.heap.size := ⟨At.new _ _ _, below_new _ _⟩
  have HST := Lib.hid hst; clear hst
  obtain ⟨W, hW⟩ : ∃ W, w.alloc (.cells NUM 52) = W := ⟨_, rfl⟩
  rw [hW] at HST ⊢; clear hW
  generalize w.heap.size = g at HST ⊢
  go_wp2_with fail
  go_loopg [9] 17 (fun gh s9 wx => ∃ j : Nat, j ≤ 17 ∧ gh = 17 - j ∧ s9 = .int .i64 (j : Int) ∧ NSt w W wx g)
  case atStart => exact ⟨0, Nat.zero_le _, rfl, rfl, HST.out⟩
  case round =>
    obtain ⟨j, hj, hg, rfl, hst⟩ := hrel
    have HG := Lib.hid hg; clear hg
    have HS := Lib.hid hst; clear HST
    by_cases hlt : j < 17
    · obtain ⟨k0, k1, k2, k3⟩ := num_cells hst.at_ hlt
      clear hst
      have hne : nm j ≠ s := HNO.out j (by omega)
      have hb : ((nm j).toList == s.toList) = false := text_ne hne
      have hb' : decide (nm j = s) = false := by simpa using hne
      generalize nm j = x at *
      generalize 24 + j = f at *
      generalize lo j = l1 at *
      generalize hi j = l2 at *
      go_wp2_with fail
      go_roundg (17 - (j + 1))
      case measure => have := HG.out; omega
      case rel => exact ⟨j + 1, by omega, rfl, by go_num, HS.out.step (below_new _ _)⟩
    · clear hst
      go_wp2_with fail
      go_ret
      exact ⟨rfl, HS.out.bel⟩
end Go.Proofs.Ythnjghkloodblaa
