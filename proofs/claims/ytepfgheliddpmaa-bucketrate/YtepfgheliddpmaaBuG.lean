/- The anchor 'awake' of the statements returns true, and leaves what was there as it was. -/
import Derived.Test.YtepfgheliddpmaaBuF
import Derived.Test.YtepfgheliddpmaaSetY
namespace Go.Proofs.Ytepfgheliddpmaa
open Go.RowKit Go.Lib
set_option linter.unusedVariables false
set_option linter.unusedSimpArgs false

def tBur : ByteArray := ⟨#[98, 117, 114, 115, 116]⟩
def tRat : ByteArray := ⟨#[114, 97, 116, 101]⟩
def sm1 : Cfg := small.set 7 2
def sm2 : Cfg := sm1.set 8 1
theorem CAt.all {w : World} {p : Nat} {c : Cfg} (h : CAt w p c) : ∀ W, Below w.heap.size w W → CAt W p c := fun W hb => h.step hb
/-- a configuration and a bucket in blocks -/
structure CB (w W : World) (q r : Nat) (c : Cfg) (b : Bt) : Prop where
  cf : CAt W q c
  bt : BtAt W r b
  le : w.heap.size ≤ r
  bel : Below w.heap.size w W
section
variable {w W W' : World} {q r : Nat} {c : Cfg} {b : Bt}
theorem CB.ne (h : CB w W q r c b) : q ≠ r := At.ne h.cf h.bt (by decide)
theorem CB.step (h : CB w W q r c b) (hb : Below W.heap.size W W') : CB w W' q r c b := ⟨h.cf.step hb, h.bt.step hb, h.le, h.bel.trans (hb.mono h.bel.size)⟩
theorem CB.put (h : CB w W q r c b) (d : Bt) : CB w (W.setRow r d.cells) q r c d :=
  ⟨(setRow_other W r q d.cells h.ne).trans h.cf, BtAt.setRow h.bt d, h.le, below_setRow h.bel h.le _⟩
theorem CB.new (h : CB w W q r c b) (d : Bt) : CB w (W.alloc (.cells d.cells 26)) q r c b ∧ BtAt (W.alloc (.cells d.cells 26)) W.heap.size d :=
  ⟨h.step (below_new _ _), BtAt.new W d⟩
end
theorem tkn_a : tkn sm2 ⟨2, 5⟩ 5 = ⟨1, 5⟩ := by rfl
theorem tkn_b : tkn sm2 ⟨1, 5⟩ 5 = ⟨0, 5⟩ := by rfl
theorem tkn_c : tkn sm2 ⟨0, 5⟩ 5 = ⟨0, 5⟩ := by rfl
theorem tkn_d : tkn sm2 ⟨0, 5⟩ 6 = ⟨0, 6⟩ := by rfl
theorem lev_a : lev sm2 2 5 5 = 2 := by rfl
theorem lev_b : lev sm2 1 5 5 = 1 := by rfl
theorem lev_c : lev sm2 0 5 5 = 0 := by rfl
theorem lev_d : lev sm2 0 5 6 = 1 := by rfl
theorem lev_e : lev sm2 0 5 9 = 2 := by rfl
theorem unt_a : unt sm2 ⟨0, 5⟩ 5 = 1 := by rfl
set_option maxRecDepth 100000 in
set_option maxHeartbeats 3200000 in
theorem awake_any (w : World) : Calls Try.prog 6 #[] w fun e w' => e = .returned (.bool true) ∧ Below w.heap.size w w' := by
  have CS := Lib.hid small_any
  have CA : Hid (∀ W, Calls Try.prog 14 #[small.V, .string ⟨#[98, 117, 114, 115, 116]⟩, .int .i64 2] W fun e w' => e = .returned (.tuple #[sm1.V, .bool true]) ∧ Below W.heap.size W w') := Lib.hid (fun W => set_yes small tBur 2 W (by decide))
  have CB' : Hid (∀ W, Calls Try.prog 14 #[sm1.V, .string ⟨#[114, 97, 116, 101]⟩, .int .i64 1] W fun e w' => e = .returned (.tuple #[sm2.V, .bool true]) ∧ Below W.heap.size W w') := Lib.hid (fun W => set_yes sm1 tRat 1 W (by decide))
  have CN : Hid (∀ W, Calls Try.prog 7 #[sm2.V, .int .i64 5] W fun e w' => e = .returned (Bt.V ⟨2, 5⟩) ∧ Below W.heap.size W w') := Lib.hid (fun W => new_any sm2 5 W)
  have T1 : Hid (∀ W, Calls Try.prog 11 #[sm2.V, Bt.V ⟨2, 5⟩, .int .i64 5] W fun e w' => e = .returned (.tuple #[Bt.V ⟨1, 5⟩, .bool true]) ∧ Below W.heap.size W w') := Lib.hid (fun W => by have := btake_any sm2 ⟨2, 5⟩ 5 W; rw [tkn_a, lev_a] at this; exact this)
  have T2 : Hid (∀ W, Calls Try.prog 11 #[sm2.V, Bt.V ⟨1, 5⟩, .int .i64 5] W fun e w' => e = .returned (.tuple #[Bt.V ⟨0, 5⟩, .bool true]) ∧ Below W.heap.size W w') := Lib.hid (fun W => by have := btake_any sm2 ⟨1, 5⟩ 5 W; rw [tkn_b, lev_b] at this; exact this)
  have T3 : Hid (∀ W, Calls Try.prog 11 #[sm2.V, Bt.V ⟨0, 5⟩, .int .i64 5] W fun e w' => e = .returned (.tuple #[Bt.V ⟨0, 5⟩, .bool false]) ∧ Below W.heap.size W w') := Lib.hid (fun W => by have := btake_any sm2 ⟨0, 5⟩ 5 W; rw [tkn_c, lev_c] at this; exact this)
  have T4 : Hid (∀ W, Calls Try.prog 11 #[sm2.V, Bt.V ⟨0, 5⟩, .int .i64 6] W fun e w' => e = .returned (.tuple #[Bt.V ⟨0, 6⟩, .bool true]) ∧ Below W.heap.size W w') := Lib.hid (fun W => by have := btake_any sm2 ⟨0, 5⟩ 6 W; rw [tkn_d, lev_d] at this; exact this)
  have CU : Hid (∀ W, Calls Try.prog 13 #[sm2.V, Bt.V ⟨0, 5⟩, .int .i64 5] W fun e w' => e = .returned (.int .i64 1) ∧ Below W.heap.size W w') := Lib.hid (fun W => by have := buntil_any sm2 ⟨0, 5⟩ 5 W; rw [unt_a] at this; exact this)
  have CL : Hid (∀ W, Calls Try.prog 12 #[sm2.V, Bt.V ⟨0, 5⟩, .int .i64 9] W fun e w' => e = .returned (.int .i64 2) ∧ Below W.heap.size W w') := Lib.hid (fun W => by have := blevel_any sm2 ⟨0, 5⟩ 9 W; rw [lev_e] at this; exact this)
  go_enter Try.func6, Try.ntmps6
  go_wp2_with fail
  refine (CS.out _).mono ?_
  rintro e w0 ⟨rfl, hcur⟩
  go_wp2_with fail
  refine (CA.out _).mono ?_
  rintro e w1 ⟨rfl, hb⟩
  replace hcur := hcur.trans (hb.mono hcur.size)
  clear hb CA CS
  go_upto_region 2 with (refine wpList_store_row rfl 24 _ _ rfl _ sm1.cells rfl rfl 24 _ (heap_alloc_new _ _) (size24 sm1) (by rw [sm1.size]; rfl) sm1.one ?_; rw [World.setRow_alloc_new])
  have HS := Lib.hid (CAt.new w1 sm1)
  have BW := Lib.hid (hcur.trans ((below_new w1 (.cells sm1.cells 24)).mono hcur.size))
  obtain ⟨W1, hW1⟩ : ∃ W1, w1.alloc (.cells sm1.cells 24) = W1 := ⟨_, rfl⟩
  rw [hW1] at HS BW ⊢; clear hW1 hcur
  generalize w1.heap.size = p at *
  go_wp2_with ((with_reducible apply wpList_load_cat (h := HS.out)); exact rfl; exact rfl; exact rfl)
  refine (CB'.out _).mono ?_
  rintro e w2 ⟨rfl, hb⟩
  have hcur := BW.out.trans (hb.mono BW.out.size)
  clear hb CB' HS BW
  go_upto_region 3 with (refine wpList_store_row rfl 24 _ _ rfl _ sm2.cells rfl rfl 24 _ (heap_alloc_new _ _) (size24 sm2) (by rw [sm2.size]; rfl) sm2.one ?_; rw [World.setRow_alloc_new])
  have HD := Lib.hid (CAt.new w2 sm2)
  have BW := Lib.hid (hcur.trans ((below_new w2 (.cells sm2.cells 24)).mono hcur.size))
  obtain ⟨W2, hW2⟩ : ∃ W2, w2.alloc (.cells sm2.cells 24) = W2 := ⟨_, rfl⟩
  rw [hW2] at HD BW ⊢; clear hW2 hcur
  generalize w2.heap.size = q at *
  go_wp2_with ((with_reducible apply wpList_load_cat (h := HD.out)); exact rfl; exact rfl; exact rfl)
  refine (CN.out _).mono ?_
  rintro e w3 ⟨rfl, hb⟩
  have H1 := Lib.hid (HD.out.step hb)
  have hcur := BW.out.trans (hb.mono BW.out.size)
  clear hb CN HD BW
  go_upto_region 4 with (refine wpList_store_row rfl 26 _ _ rfl _ (⟨2, 5⟩ : Bt).cells rfl rfl 26 _ (heap_alloc_new _ _) (sizeBt _) rfl (Bt.one _) ?_; rw [World.setRow_alloc_new])
  have HS := Lib.hid (show CB w (w3.alloc (.cells (⟨2, 5⟩ : Bt).cells 26)) q w3.heap.size sm2 ⟨2, 5⟩ from ⟨H1.out.step (below_new _ _), BtAt.new _ _, hcur.size, hcur.trans ((below_new _ _).mono hcur.size)⟩)
  obtain ⟨W3, hW3⟩ : ∃ W3, w3.alloc (.cells (⟨2, 5⟩ : Bt).cells 26) = W3 := ⟨_, rfl⟩
  rw [hW3] at HS ⊢; clear hW3 hcur H1
  generalize w3.heap.size = r at *
  go_wp2_with (first | ((with_reducible apply wpList_load_cat (h := HS.out.cf)); exact rfl; exact rfl; exact rfl) | ((with_reducible apply wpList_load_bt (h := HS.out.bt)); exact rfl; exact rfl; exact rfl))
  refine (T1.out _).mono ?_
  rintro e v1 ⟨rfl, hb⟩
  have HT := Lib.hid (HS.out.step hb)
  clear HS hb T1
  go_upto_region 5 with ((with_reducible apply wpList_store_bt (c := ⟨1, 5⟩) (hq := HT.out.bt)); exact rfl; exact rfl; exact rfl; exact rfl)
  have HS := Lib.hid (HT.out.put ⟨1, 5⟩)
  clear HT
  obtain ⟨V1, hV⟩ : ∃ V, v1.setRow r (Bt.cells ⟨1, 5⟩) = V := ⟨_, rfl⟩
  rw [hV] at HS ⊢; clear hV
  go_wp2_with (first | ((with_reducible apply wpList_load_cat (h := HS.out.cf)); exact rfl; exact rfl; exact rfl) | ((with_reducible apply wpList_load_bt (h := HS.out.bt)); exact rfl; exact rfl; exact rfl))
  refine (T2.out _).mono ?_
  rintro e v2 ⟨rfl, hb⟩
  have HT := Lib.hid (HS.out.step hb)
  clear HS hb T2
  go_upto_region 6 with ((with_reducible apply wpList_store_bt (c := ⟨0, 5⟩) (hq := HT.out.bt)); exact rfl; exact rfl; exact rfl; exact rfl)
  have HS := Lib.hid (HT.out.put ⟨0, 5⟩)
  clear HT
  obtain ⟨V2, hV⟩ : ∃ V, v2.setRow r (Bt.cells ⟨0, 5⟩) = V := ⟨_, rfl⟩
  rw [hV] at HS ⊢; clear hV
  go_wp2_with (first | ((with_reducible apply wpList_load_cat (h := HS.out.cf)); exact rfl; exact rfl; exact rfl) | ((with_reducible apply wpList_load_bt (h := HS.out.bt)); exact rfl; exact rfl; exact rfl))
  refine (T3.out _).mono ?_
  rintro e v3 ⟨rfl, hb⟩
  have HT := Lib.hid (HS.out.step hb)
  skip
  clear HS hb T3
  go_upto_region 7 with (refine wpList_store_row rfl 26 _ _ rfl _ (⟨0, 5⟩ : Bt).cells rfl rfl 26 _ (heap_alloc_new _ _) (sizeBt _) rfl (Bt.one _) ?_; rw [World.setRow_alloc_new])
  have HS := Lib.hid (HT.out.new ⟨0, 5⟩).1
  have HE := Lib.hid (HT.out.new ⟨0, 5⟩).2
  skip
  clear HT
  obtain ⟨V3, hV⟩ : ∃ V, v3.alloc (.cells (Bt.cells ⟨0, 5⟩) 26) = V := ⟨_, rfl⟩
  rw [hV] at HE HS ⊢; clear hV
  generalize v3.heap.size = heb at *
  go_wp2_with (first | ((with_reducible apply wpList_load_cat (h := HS.out.cf)); exact rfl; exact rfl; exact rfl) | ((with_reducible apply wpList_load_bt (h := HS.out.bt)); exact rfl; exact rfl; exact rfl))
  refine (T4.out _).mono ?_
  rintro e v4 ⟨rfl, hb⟩
  have HT := Lib.hid (HS.out.step hb)
  replace HE := Lib.hid (HE.out.step hb)
  clear HS hb T4
  go_upto_region 8 with (refine wpList_store_row rfl 26 _ _ rfl _ (⟨0, 6⟩ : Bt).cells rfl rfl 26 _ (heap_alloc_new _ _) (sizeBt _) rfl (Bt.one _) ?_; rw [World.setRow_alloc_new])
  have HS := Lib.hid (HT.out.new ⟨0, 6⟩).1
  have HF := Lib.hid (HT.out.new ⟨0, 6⟩).2
  replace HE := Lib.hid (HE.out.step (below_new v4 (.cells (Bt.cells ⟨0, 6⟩) 26)))
  clear HT
  obtain ⟨V4, hV⟩ : ∃ V, v4.alloc (.cells (Bt.cells ⟨0, 6⟩) 26) = V := ⟨_, rfl⟩
  rw [hV] at HE HF HS ⊢; clear hV
  generalize v4.heap.size = hfb at *
  go_wp2_with (first | ((with_reducible apply wpList_load_cat (h := HS.out.cf)); exact rfl; exact rfl; exact rfl) | ((with_reducible apply wpList_load_bt (h := HS.out.bt)); exact rfl; exact rfl; exact rfl) | ((with_reducible apply wpList_load_bt (h := HE.out)); exact rfl; exact rfl; exact rfl) | ((with_reducible apply wpList_load_bt (h := HF.out)); exact rfl; exact rfl; exact rfl) | ((with_reducible apply wpList_eql_bt (c := ⟨0, 5⟩) (d := ⟨0, 5⟩) (b := true)); exact rfl; exact rfl; exact rfl; exact rfl; exact rfl) | ((with_reducible apply wpList_eql_bt (c := ⟨0, 6⟩) (d := ⟨0, 6⟩) (b := true)); exact rfl; exact rfl; exact rfl; exact rfl; exact rfl))
  refine (CU.out _).mono ?_
  rintro e u1 ⟨rfl, hb⟩
  replace HS := Lib.hid (HS.out.step hb)
  clear hb CU HE HF
  go_wp2_with (first | ((with_reducible apply wpList_load_cat (h := HS.out.cf)); exact rfl; exact rfl; exact rfl) | ((with_reducible apply wpList_load_bt (h := HS.out.bt)); exact rfl; exact rfl; exact rfl))
  refine (CL.out _).mono ?_
  rintro e u2 ⟨rfl, hb⟩
  replace HS := Lib.hid (HS.out.step hb)
  go_wp2_with fail
  go_ret
  exact ⟨rfl, HS.out.bel⟩
end Go.Proofs.Ytepfgheliddpmaa
