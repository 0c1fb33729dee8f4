/- The anchor 'awake' of the statements returns true, and leaves what was there as it was. -/
import Derived.Test.YtenajaiedoigpaaRID
import Derived.Test.YtenajaiedoigpaaRSD
namespace Go.Proofs.Ytenajaiedoigpaa
open Go.RowKit Go.Lib Plain

def sa : ByteArray := ⟨#[97]⟩
def sb : ByteArray := ⟨#[98]⟩
def sd : ByteArray := ⟨#[100]⟩
set_option maxRecDepth 100000 in
set_option maxHeartbeats 1600000 in
theorem awake_any (w : World) : Calls Try.prog 7 #[] w fun e w' => e = .returned (.bool true) ∧ Below w.heap.size w w' := by
  go_enter Try.func7, Try.ntmps7
  go_wp2_with fail
  refine (RS.new_any w 2 (by omega) (by omega)).mono ?_
  rintro e w1 ⟨rfl, h1, hb1⟩
  have H1 := Lib.hid h1; have HC1 := Lib.hid (Chg.ofBelow hb1 (RBlk 91 95 w w.heap.size)); have hs1 := hb1.size; clear h1 hb1
  go_wp2_with fail
  refine (RS.push_any sa H1.out hs1 (by simp) (by omega)).mono ?_
  rintro e w2 ⟨rfl, h2, hc2⟩
  have HC2 := Lib.hid (rchg_trans HC1.out hc2); have H2 := Lib.hid h2; have hs2 := HC2.out.size; clear h2 hc2 HC1 H1
  go_wp2_with fail
  refine (RS.push_any sb H2.out hs2 (by simp) (by omega)).mono ?_
  rintro e w3 ⟨rfl, h3, hc3⟩
  have HC3 := Lib.hid (rchg_trans HC2.out hc3); have H3 := Lib.hid h3; have hs3 := HC3.out.size; clear h3 hc3 HC2 H2
  go_wp2_with fail
  refine (RS.push_no ⟨#[99]⟩ H3.out (by simp)).mono ?_
  rintro e w4 ⟨rfl, rfl⟩
  go_wp2_with fail
  refine (RS.pop_some (x := (sa, 0)) (its := [(sb, 0 + 1)]) H3.out).mono ?_
  rintro e w5 ⟨rfl, h5, hc5⟩
  have HC5 := Lib.hid (rchg_trans HC3.out hc5); have H5 := Lib.hid h5; have hs5 := HC5.out.size; clear h5 hc5 HC3 H3
  go_wp2_with fail
  refine (RS.push_any sd H5.out hs5 (by simp) (by omega)).mono ?_
  rintro e w6 ⟨rfl, h6, hc6⟩
  have HC6 := Lib.hid (rchg_trans HC5.out hc6); have H6 := Lib.hid h6; clear h6 hc6 HC5 H5
  go_wp2_with fail
  refine (RS.list_any H6.out).mono ?_
  rintro e w7 ⟨rfl, hr7, hb7⟩
  have h7 := H6.out.below hb7
  have HC7 := Lib.hid (rchg_below HC6.out hb7)
  obtain ⟨arr, ha, _, hc⟩ := hr7
  have q0 : w7.cell? ⟨w6.heap.size, 0, none⟩ = some (.string sb) := by rw [ha.cell]; exact hc 0 sb (by simp) rfl
  have q1 : w7.cell? ⟨w6.heap.size, 1, none⟩ = some (.string sd) := by rw [ha.cell]; exact hc 1 sd (by simp) rfl
  have cl := RS.len_any h7
  have cr := RS.room_any h7
  have cc := RS.clear_any h7
  have CL := Lib.hid cl; have CR := Lib.hid cr; have CC := Lib.hid cc
  have CN := Lib.hid (RI.new_no w7 0 (.inl (by omega)))
  clear hb7 h7 ha hc cl cr cc HC6 H6
  generalize w6.heap.size = G at *
  have s1 : sa.toList = [97] := by rw [ByteArray.toList_eq]; rfl
  have s2 : sb.toList = [98] := by rw [ByteArray.toList_eq]; rfl
  have s3 : sd.toList = [100] := by rw [ByteArray.toList_eq]; rfl
  have t1 : (⟨#[97]⟩ : ByteArray).toList = [97] := by rw [ByteArray.toList_eq]
  have t2 : (⟨#[98]⟩ : ByteArray).toList = [98] := by rw [ByteArray.toList_eq]
  have t3 : (⟨#[100]⟩ : ByteArray).toList = [100] := by rw [ByteArray.toList_eq]
  go_wp2_with (first | (go_at_call 34; refine CL.out.mono ?_; rintro e w8 ⟨rfl, rfl⟩) | (go_at_call 35; refine CR.out.mono ?_; rintro e w8 ⟨rfl, rfl⟩) | (go_at_call 8; refine CN.out.mono ?_; rintro e w8 ⟨rfl, rfl⟩) | (go_at_call 36; refine CC.out.mono ?_; rintro e w9 ⟨rfl, _, hc9⟩; have HC9 := Lib.hid (rchg_trans HC7.out hc9); clear hc9))
  go_ret
  exact ⟨rfl, rchg_toBelow HC9.out (Nat.le_refl _)⟩
end Go.Proofs.Ytenajaiedoigpaa
