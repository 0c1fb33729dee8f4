/- The anchor 'awake' of the statements returns true, and leaves what was there as it was. -/
import Derived.Test.YthnjghkloodblaaNames
namespace Go.Proofs.Ythnjghkloodblaa
open Go.RowKit Go.Lib
set_option linter.unusedVariables false

def tWin : ByteArray := ⟨#[119, 105, 110, 100, 111, 119]⟩
def tFlo : ByteArray := ⟨#[102, 108, 111, 111, 114, 115]⟩
theorem i_win : idx tWin = 6 := by decide
theorem i_flo : idx tFlo = 0 := by decide
def sm1 : Cfg := small.set 0 1
/-- a configuration that lies in a block stays there -/
theorem CAt.all {w : World} {p : Nat} {c : Cfg} (h : CAt w p c) : ∀ W, Below w.heap.size w W → CAt W p c := fun W hb => h.step hb
set_option maxRecDepth 100000 in
set_option maxHeartbeats 3200000 in
theorem awake_any (w : World) : Calls Try.prog 7 #[] w fun e w' => e = .returned (.bool true) ∧ Below w.heap.size w w' := by
  have CS := Lib.hid small_any
  have CG : Hid (∀ W, Calls Try.prog 18 #[small.V, .string ⟨#[119, 105, 110, 100, 111, 119]⟩] W fun e w' => e = .returned (.tuple #[.int .i64 20, .bool true]) ∧ Below W.heap.size W w') := Lib.hid (fun W => get_yes small tWin W (by decide))
  have CT : Hid (∀ W, Calls Try.prog 19 #[small.V, .string ⟨#[102, 108, 111, 111, 114, 115]⟩, .int .i64 1] W fun e w' => e = .returned (.tuple #[sm1.V, .bool true]) ∧ Below W.heap.size W w') := Lib.hid (fun W => set_yes small tFlo 1 W (by decide))
  have C1 : Hid (∀ W, Calls Try.prog 9 #[small.V] W fun e w' => e = .returned (.int .i64 0) ∧ Below W.heap.size W w') := Lib.hid (fun W => check_any small W)
  have C2 : Hid (∀ W, Calls Try.prog 10 #[small.V] W fun e w' => e = .returned (.int .i64 50) ∧ Below W.heap.size W w') := Lib.hid (fun W => trip_any small W)
  have C3 : Hid (∀ W, Calls Try.prog 12 #[small.V] W fun e w' => e = .returned (.int .i64 750) ∧ Below W.heap.size W w') := Lib.hid (fun W => ride_any small W)
  have C4 : Hid (∀ W, Calls Try.prog 13 #[small.V] W fun e w' => e = .returned (.int .i64 52) ∧ Below W.heap.size W w') := Lib.hid (fun W => answer_any small W)
  have C5 : Hid (∀ W, Calls Try.prog 9 #[sm1.V] W fun e w' => e = .returned (.int .i64 3) ∧ Below W.heap.size W w') := Lib.hid (fun W => check_any sm1 W)
  have C6 : Hid (∀ W, Calls Try.prog 14 #[small.V, .int .i64 5] W fun e w' => e = .returned (.bool true) ∧ Below W.heap.size W w') := Lib.hid (fun W => floor_any small 5 W)
  have C7 : Hid (∀ W, Calls Try.prog 15 #[small.V, .int .i64 2] W fun e w' => e = .returned (.bool false) ∧ Below W.heap.size W w') := Lib.hid (fun W => car_any small 2 W)
  go_enter Try.func7, Try.ntmps7
  go_wp2_with fail
  refine (CS.out _).mono ?_
  rintro e w0 ⟨rfl, hcur⟩
  go_upto_region 2 with (refine wpList_store_row rfl 24 _ _ rfl _ small.cells rfl rfl 24 _ (heap_alloc_new _ _) (size24 small) (by rw [small.size]; rfl) small.one ?_; rw [World.setRow_alloc_new])
  have HS := Lib.hid (CAt.new w0 small).all
  have BW := Lib.hid (hcur.trans ((below_new w0 (.cells small.cells 24)).mono hcur.size))
  obtain ⟨W1, hW1⟩ : ∃ W1, w0.alloc (.cells small.cells 24) = W1 := ⟨_, rfl⟩
  rw [hW1] at HS BW ⊢; clear hW1 hcur
  generalize w0.heap.size = p at *
  have hcur := Below.refl W1.heap.size W1
  go_wp2_with (refine wpList_load_row rfl 24 _ rfl _ rfl 24 small.cells (0, 0) _ (HS.out _ hcur) Try.underlying24 rfl (size24 small) ?_)
  refine (CG.out _).mono ?_
  rintro e w2 ⟨rfl, hcur⟩
  go_wp2_with (refine wpList_load_row rfl 24 _ rfl _ rfl 24 small.cells (0, 0) _ (HS.out _ hcur) Try.underlying24 rfl (size24 small) ?_)
  refine (CT.out _).mono ?_
  rintro e w3 ⟨rfl, hb⟩
  replace hcur := hcur.trans (hb.mono hcur.size)
  clear hb
  go_upto_region 4 with (refine wpList_store_row rfl 24 _ _ rfl _ sm1.cells rfl rfl 24 _ (heap_alloc_new _ _) (size24 sm1) (by rw [sm1.size]; rfl) sm1.one ?_; rw [World.setRow_alloc_new])
  have HD := Lib.hid (CAt.new w3 sm1).all
  have hc2 := hcur.trans ((below_new w3 (.cells sm1.cells 24)).mono hcur.size)
  obtain ⟨W4, hW4⟩ : ∃ W4, w3.alloc (.cells sm1.cells 24) = W4 := ⟨_, rfl⟩
  rw [hW4] at HD hc2 ⊢; clear hW4 hcur
  generalize w3.heap.size = q at *
  have HS4 := Lib.hid (HS.out _ hc2).all
  have BW4 := Lib.hid (BW.out.trans (hc2.mono BW.out.size))
  clear HS BW hc2 CG CT CS
  have hcur := Below.refl W4.heap.size W4
  go_wp2_with (first | (refine wpList_load_rowG rfl 24 (.tmp 1) rfl _ rfl 24 small.cells (0, 0) _ (HS4.out _ hcur) Try.underlying24 rfl (size24 small) ?_) | (refine wpList_load_rowG rfl 24 (.tmp 4) rfl _ rfl 24 sm1.cells (0, 0) _ (HD.out _ hcur) Try.underlying24 rfl (size24 sm1) ?_))
  refine (C1.out _).mono ?_
  rintro e v0 ⟨rfl, hb⟩
  replace hcur := hcur.trans (hb.mono hcur.size)
  clear hb
  go_wp2_with (first | (refine wpList_load_rowG rfl 24 (.tmp 1) rfl _ rfl 24 small.cells (0, 0) _ (HS4.out _ hcur) Try.underlying24 rfl (size24 small) ?_) | (refine wpList_load_rowG rfl 24 (.tmp 4) rfl _ rfl 24 sm1.cells (0, 0) _ (HD.out _ hcur) Try.underlying24 rfl (size24 sm1) ?_))
  refine (C2.out _).mono ?_
  rintro e v1 ⟨rfl, hb⟩
  replace hcur := hcur.trans (hb.mono hcur.size)
  clear hb
  go_wp2_with (first | (refine wpList_load_rowG rfl 24 (.tmp 1) rfl _ rfl 24 small.cells (0, 0) _ (HS4.out _ hcur) Try.underlying24 rfl (size24 small) ?_) | (refine wpList_load_rowG rfl 24 (.tmp 4) rfl _ rfl 24 sm1.cells (0, 0) _ (HD.out _ hcur) Try.underlying24 rfl (size24 sm1) ?_))
  refine (C3.out _).mono ?_
  rintro e v2 ⟨rfl, hb⟩
  replace hcur := hcur.trans (hb.mono hcur.size)
  clear hb
  go_wp2_with (first | (refine wpList_load_rowG rfl 24 (.tmp 1) rfl _ rfl 24 small.cells (0, 0) _ (HS4.out _ hcur) Try.underlying24 rfl (size24 small) ?_) | (refine wpList_load_rowG rfl 24 (.tmp 4) rfl _ rfl 24 sm1.cells (0, 0) _ (HD.out _ hcur) Try.underlying24 rfl (size24 sm1) ?_))
  refine (C4.out _).mono ?_
  rintro e v3 ⟨rfl, hb⟩
  replace hcur := hcur.trans (hb.mono hcur.size)
  clear hb
  have z0 : v3.cell? ⟨q, 0, none⟩ = some (.int .i64 1) := (HD.out _ hcur).get (k := 0) (by omega)
  go_wp2_with (first | (refine wpList_load_rowG rfl 24 (.tmp 1) rfl _ rfl 24 small.cells (0, 0) _ (HS4.out _ hcur) Try.underlying24 rfl (size24 small) ?_) | (refine wpList_load_rowG rfl 24 (.tmp 4) rfl _ rfl 24 sm1.cells (0, 0) _ (HD.out _ hcur) Try.underlying24 rfl (size24 sm1) ?_))
  clear z0
  refine (C5.out _).mono ?_
  rintro e v4 ⟨rfl, hb⟩
  replace hcur := hcur.trans (hb.mono hcur.size)
  clear hb
  go_wp2_with (first | (refine wpList_load_rowG rfl 24 (.tmp 1) rfl _ rfl 24 small.cells (0, 0) _ (HS4.out _ hcur) Try.underlying24 rfl (size24 small) ?_) | (refine wpList_load_rowG rfl 24 (.tmp 4) rfl _ rfl 24 sm1.cells (0, 0) _ (HD.out _ hcur) Try.underlying24 rfl (size24 sm1) ?_))
  refine (C6.out _).mono ?_
  rintro e v5 ⟨rfl, hb⟩
  replace hcur := hcur.trans (hb.mono hcur.size)
  clear hb
  go_wp2_with (first | (refine wpList_load_rowG rfl 24 (.tmp 1) rfl _ rfl 24 small.cells (0, 0) _ (HS4.out _ hcur) Try.underlying24 rfl (size24 small) ?_) | (refine wpList_load_rowG rfl 24 (.tmp 4) rfl _ rfl 24 sm1.cells (0, 0) _ (HD.out _ hcur) Try.underlying24 rfl (size24 sm1) ?_))
  refine (C7.out _).mono ?_
  rintro e v6 ⟨rfl, hb⟩
  replace hcur := hcur.trans (hb.mono hcur.size)
  clear hb
  have z1 : v6.cell? ⟨p, 17, none⟩ = some (.int .u32 7) := (HS4.out _ hcur).sec
  go_wp2_with (first | (refine wpList_load_rowG rfl 24 (.tmp 1) rfl _ rfl 24 small.cells (0, 0) _ (HS4.out _ hcur) Try.underlying24 rfl (size24 small) ?_) | (refine wpList_load_rowG rfl 24 (.tmp 4) rfl _ rfl 24 sm1.cells (0, 0) _ (HD.out _ hcur) Try.underlying24 rfl (size24 sm1) ?_))
  go_ret
  exact ⟨rfl, BW4.out.trans (hcur.mono BW4.out.size)⟩
end Go.Proofs.Ythnjghkloodblaa
