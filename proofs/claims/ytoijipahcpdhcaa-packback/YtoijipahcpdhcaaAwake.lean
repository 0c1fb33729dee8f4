/- The anchor 'awake' of the statements returns true, and leaves what was there as it was. -/
import Derived.Test.YtoijipahcpdhcaaRefA
namespace Go.Proofs.Ytoijipahcpdhcaa
open Go.RowKit Go.Lib Plain

def sab : ByteArray := ⟨#[97, 98]⟩
def s6 : ByteArray := ⟨#[1, 2, 0, 2, 97, 98]⟩
theorem k1 : okNums 2 [258] = true := by decide
theorem k2 : numd 2 [258] [] = [1, 2] := by decide
theorem k3 : textd sab [1, 2] = [1, 2, 0, 2, 97, 98] := by decide
theorem k4 : textOf [1, 2, 0, 2, 97, 98] = s6 := rfl
theorem k5 : okNums 3 [1] = false := by decide
theorem k6 : numd 3 [1] [1, 2, 0, 2, 97, 98] = [1, 2, 0, 2, 97, 98] := by decide
theorem k7 : dec (s6.data.toList.take (2 : Int).toNat) = 258 := by decide
theorem k8 : textOf (s6.data.toList.drop (2 : Int).toNat) = ⟨#[0, 2, 97, 98]⟩ := rfl
theorem k9 : textOf (((⟨#[0, 2, 97, 98]⟩ : ByteArray).data.toList.drop 2).take 2) = sab := rfl
theorem k10 : textOf ((⟨#[0, 2, 97, 98]⟩ : ByteArray).data.toList.drop (2 + 2)) = ⟨#[]⟩ := rfl
/-- a new Out is written on: nothing below it has turned -/
theorem wrote_below {w w' : World} {B p : Nat} {v : Value} {bs : List UInt8} (h : Out w B p v bs) (hB : B ≤ w.heap.size) (hc : Chg w w' (outSet p v)) : Below B w w' := by
  refine hc.toBelow hB fun k hk hs => ?_
  rcases hs with rfl | e
  · have := h.le; omega
  · have := (h.own.lt k e).1; omega

set_option maxRecDepth 100000 in
set_option maxHeartbeats 1600000 in
theorem awake_any (w : World) : Calls Try.prog 8 #[] w fun e w' => e = .returned (.bool true) ∧ Below w.heap.size w w' := by
  have o1 := Out.new w w.heap.size (Nat.le_refl _)
  have o2 := o1.alloc (.cells #[.int .i64 258] 3)
  have n2 : ¬ outSet w.heap.size (.slice none 0 0) (w.heap.size + 1) := by rintro (h | h); omega; simp [Value.ownBlock] at h
  have b2 : Below w.heap.size w ((w.alloc (.cells #[.slice none 0 0] 27)).alloc (.cells #[.int .i64 258] 3)) := ((Below.refl _ _).alloc (Nat.le_refl _) _).alloc (by simp) _
  have O2 := Lib.hid o2; have N2 := Lib.hid n2; have B2 := Lib.hid b2; clear o1 o2 n2 b2
  have t6 : s6.toList = [1, 2, 0, 2, 97, 98] := by rw [ByteArray.toList_eq]; rfl
  have t2 : sab.toList = [97, 98] := by rw [ByteArray.toList_eq]; rfl
  go_enter Try.func8, Try.ntmps8
  go_wp2_with fail
  refine (num_one w.heap.size w.heap.size (w.heap.size + 1) 1 _ [] 2 258 _ O2.out (by simp; omega) (by simp [go_sem]) (by unfold inI64; omega) (by simp) N2.out).mono ?_
  rintro e w3 ⟨rfl, v3, o3, c3, l3⟩
  rw [k1]
  rw [k2] at o3
  have b3 := B2.out.trans (wrote_below O2.out (by simp; omega) c3)
  have z3 : w.heap.size ≤ w3.heap.size := b3.size
  have O3 := Lib.hid o3; have B3 := Lib.hid b3; clear o3 b3 c3 l3 O2 B2 N2
  go_wp2_with fail
  refine (text_some w.heap.size w.heap.size v3 [1, 2] sab _ O3.out z3 (by decide) (by simp)).mono ?_
  rintro e w4 ⟨rfl, v4, o4, c4, l4⟩
  rw [k3] at o4
  have b4 := B3.out.trans (wrote_below O3.out z3 c4)
  have z4 : w.heap.size ≤ w4.heap.size := b4.size
  have O4 := Lib.hid o4; have B4 := Lib.hid b4; clear o4 b4 c4 l4 O3 B3
  have kd : decide (sab.size ≤ 65535) = true := by decide
  rw [kd]
  clear kd
  go_wp2_with fail
  refine (string_some O4.out).mono ?_
  rintro e w' ⟨rfl, rfl⟩
  rw [k4]
  go_wp2_with fail
  refine (of_any s6 _).mono ?_
  rintro e w5 ⟨rfl, h5⟩
  have i5 : InAt w5 w4.heap.size s6 false := by rw [← h5]; exact At.new _ _ _
  have o5 : Out w5 w.heap.size w.heap.size v4 [1, 2, 0, 2, 97, 98] := by rw [← h5]; exact O4.out.alloc _
  have b5 : Below w.heap.size w w5 := by rw [← h5]; exact B4.out.alloc z4 _
  have I5 := Lib.hid i5; have O5 := Lib.hid o5; have B5 := Lib.hid b5; clear i5 o5 b5 h5 O4 B4
  go_wp2_with fail
  refine (inum_ok 2 I5.out (by decide) (by decide) (by decide) (by rw [k7]; decide)).mono ?_
  rintro e w6 ⟨rfl, i6, c6⟩
  rw [k7]
  rw [k8] at i6
  have ne4 : ∀ k, v4.ownBlock = some k → ¬ k = w4.heap.size := fun k hk e => by
    subst e; exact own_ne O5.out.own I5.out (by decide) hk
  have o6 := O5.out.chg c6 (At.ne O5.out.at_ I5.out (by decide)) ne4
  have b6 : Below w.heap.size w w6 := B5.out.trans (c6.toBelow B5.out.size (fun k hk e => by omega))
  have I6 := Lib.hid i6; have O6 := Lib.hid o6; have B6 := Lib.hid b6; have NE4 := Lib.hid ne4; clear i6 o6 b6 c6 I5 O5 B5 ne4
  go_wp2_with fail
  refine (itext_ok 2 2 I6.out (by decide) (by decide) (by decide) (by decide) (by decide)).mono ?_
  rintro e w7 ⟨rfl, i7, c7⟩
  rw [k9]
  rw [k10] at i7
  have o7 := O6.out.chg c7 (At.ne O6.out.at_ I6.out (by decide)) NE4.out
  have b7 : Below w.heap.size w w7 := B6.out.trans (c7.toBelow B6.out.size (fun k hk e => by omega))
  have I7 := Lib.hid i7; have O7 := Lib.hid o7; have B7 := Lib.hid b7; clear i7 o7 b7 c7 I6 O6 B6
  go_wp2_with fail
  refine (string_some O7.out).mono ?_
  rintro e w' ⟨rfl, rfl⟩
  rw [k4]
  go_wp2_with fail
  refine (end_some I7.out).mono ?_
  rintro e w' ⟨rfl, rfl⟩
  have ke : (!false && (⟨#[]⟩ : ByteArray).size == 0) = true := by decide
  rw [ke]
  clear ke
  go_wp2_with fail
  refine (num_one w.heap.size w.heap.size w7.heap.size 1 v4 [1, 2, 0, 2, 97, 98] 3 1 _ (O7.out.alloc _) (by have := B7.out.size; simp; omega) (by simp [go_sem]) (by unfold inI64; omega) (by simp) (O7.out.not_new (Nat.le_refl _))).mono ?_
  rintro e w8 ⟨rfl, v8, o8, c8, l8⟩
  rw [k5]
  rw [k6] at o8
  have b8 := (B7.out.alloc B7.out.size _).trans (wrote_below (O7.out.alloc _) (by have := B7.out.size; simp; omega) c8)
  have O8 := Lib.hid o8; have B8 := Lib.hid b8; clear o8 b8 c8 l8 O7 B7
  go_wp2_with fail
  refine (len_some O8.out).mono ?_
  rintro e w' ⟨rfl, rfl⟩
  go_wp2
  go_ret
  exact ⟨rfl, B8.out⟩
end Go.Proofs.Ytoijipahcpdhcaa
