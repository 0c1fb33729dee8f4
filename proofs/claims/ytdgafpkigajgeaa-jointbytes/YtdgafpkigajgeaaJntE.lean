/- The anchor 'awake' of the statements returns true, and leaves what was there as it was. -/
import Derived.Test.YtdgafpkigajgeaaJntC
namespace Go.Proofs.Ytdgafpkigajgeaa
open Go.RowKit Go.Lib Plain

def sab : ByteArray := ⟨#[97, 98]⟩
/-- ab's frame -/
def fab : ByteArray := ⟨#[0, 2, 97, 98, 224, 81, 154, 253]⟩
def y1 : ByteArray := ⟨#[0, 2, 97]⟩
def y2 : ByteArray := ⟨#[98, 224, 81, 154, 253, 0]⟩
def y3 : ByteArray := ⟨#[0]⟩
def l1 : List UInt8 := [] ++ y1.data.toList
def l2 : List UInt8 := l1 ++ y2.data.toList
def l3 : List UInt8 := l2 ++ y3.data.toList
theorem kb1 : textOf (ofT sab.data.toList) = fab := by decide +kernel
theorem kb2 : ofE sab.data.toList = 0 := by decide +kernel
theorem kb3 : fab.extract 0 3 = y1 := by decide +kernel
theorem kb4 : fab.extract 3 8 ++ ⟨#[0]⟩ = y2 := by decide +kernel
theorem kb5 : news [] y1.data.toList = [] := by decide +kernel
theorem kb6 : jB l1 = false := by decide +kernel
theorem kb7 : (jW l1).length = 3 := by decide +kernel
theorem kb8 : news l1 y2.data.toList = [[97, 98]] := by decide +kernel
theorem kb9 : jB l2 = false := by decide +kernel
theorem kba : news l2 y3.data.toList = [] := by decide +kernel
theorem kbb : jB l3 = true := by decide +kernel
theorem kbc : cnt l3 = 1 := by decide +kernel
theorem feed1 {w : World} {p : Nat} (h : JAt w p []) : Calls Try.prog 10 #[.pointer (some ⟨p, 0, none⟩), .string y1] w fun e w' => ∃ v, e = .returned (.tuple #[v, .bool true]) ∧ OwnS w' w.heap.size v [] ∧ JAt w' p l1 ∧ Chg w w' (fun k => k = p) :=
  (jfeed_any h y1 (by decide)).mono (by
    rintro e w' ⟨v, rfl, ho, hj, hc⟩
    rw [kb5] at ho
    exact ⟨v, ret_vb (by rw [show [] ++ y1.data.toList = l1 from rfl, kb6]; rfl), ho, hj, hc⟩)
theorem feed2 {w : World} {p : Nat} (h : JAt w p l1) : Calls Try.prog 10 #[.pointer (some ⟨p, 0, none⟩), .string y2] w fun e w' => ∃ v, e = .returned (.tuple #[v, .bool true]) ∧ OwnS w' w.heap.size v [sab] ∧ JAt w' p l2 ∧ Chg w w' (fun k => k = p) :=
  (jfeed_any h y2 (by decide)).mono (by
    rintro e w' ⟨v, rfl, ho, hj, hc⟩
    rw [kb8] at ho
    exact ⟨v, ret_vb (by rw [show l1 ++ y2.data.toList = l2 from rfl, kb9]; rfl), ho, hj, hc⟩)
theorem feed3 {w : World} {p : Nat} (h : JAt w p l2) : Calls Try.prog 10 #[.pointer (some ⟨p, 0, none⟩), .string y3] w fun e w' => ∃ v, e = .returned (.tuple #[v, .bool false]) ∧ OwnS w' w.heap.size v [] ∧ JAt w' p l3 ∧ Chg w w' (fun k => k = p) :=
  (jfeed_any h y3 (by decide)).mono (by
    rintro e w' ⟨v, rfl, ho, hj, hc⟩
    rw [kba] at ho
    exact ⟨v, ret_vb (by rw [show l2 ++ y3.data.toList = l3 from rfl, kbb]; rfl), ho, hj, hc⟩)
theorem OwnS.none {w : World} {B : Nat} {v : Value} (h : OwnS w B v []) : ∃ O cap, v = .slice O 0 cap := by
  obtain ⟨O, cap, rfl, _⟩ := h.read
  exact ⟨O, cap, rfl⟩
/-- a row of texts stays through a Feed -/
theorem OwnS.fed {w w' : World} {B p : Nat} {v : Value} {ts : List ByteArray} {l : List UInt8} (h : OwnS w B v ts) (j : JAt w p l) (hc : Chg w w' (fun k => k = p)) : OwnS w' B v ts :=
  own_chg h hc (fun k hk hp => by subst hp; exact own_ne h j (by decide) hk)

/-- what a Feed of a Joint to which nothing came answers -/
theorem jfeed_new {w : World} {p : Nat} (h : JAt w p []) (c : ByteArray) (hz : c.size ≤ 900000) :
    Calls Try.prog 10 #[.pointer (some ⟨p, 0, none⟩), .string c] w fun e w' => ∃ v, e = .returned (.tuple #[v, .bool (!jB c.data.toList)]) ∧ OwnS w' w.heap.size v ((told c.data.toList).map textOf) ∧ JAt w' p c.data.toList ∧ Chg w w' (fun k => k = p) :=
  jfeed_any h c (by simpa using hz)

set_option maxRecDepth 100000 in
set_option maxHeartbeats 1600000 in
theorem awake_any (w : World) : Calls Try.prog 7 #[] w fun e w' => e = .returned (.bool true) ∧ Below w.heap.size w w' := by
  have z1 : fab.size = 8 := rfl
  have x3 := kb3
  have x4 := kb4
  go_enter Try.func7, Try.ntmps7
  go_wp2_with fail
  refine (fof_any sab _ (by decide)).mono ?_
  rintro e w1 ⟨rfl, hb1⟩
  rw [kb1, kb2]
  have HB1 := Lib.hid hb1; clear hb1
  go_wp2_with fail
  refine (jnew_any _).mono ?_
  rintro e w2 ⟨rfl, hj, hb2⟩
  have hp := hj.lt
  have hc2 : Chg w w2 (fun k => k = w1.heap.size) := (Chg.ofBelow HB1.out _).trans (Chg.ofBelow hb2 (fun k => k = w1.heap.size)) (fun _ _ h => h)
  have hp0 := HB1.out.size
  generalize w1.heap.size = p at *
  have HJ := Lib.hid hj; have HC2 := Lib.hid hc2; clear hj hc2 hb2 HB1
  go_wp2_with fail
  refine (feed1 HJ.out).mono ?_
  rintro e w3 ⟨v3, rfl, ho3, hj3, hc3⟩
  obtain ⟨O3, cap3, rfl⟩ := ho3.none
  have HJ3 := Lib.hid hj3; have HC3 := Lib.hid (HC2.out.trans hc3 (fun _ _ h => h)); clear hj3 hc3 HJ HC2 ho3
  go_wp2_with fail
  refine (jleft_some HJ3.out).mono ?_
  rintro e w4 ⟨rfl, rfl⟩
  rw [kb7]
  go_wp2_with fail
  refine (feed2 HJ3.out).mono ?_
  rintro e w5 ⟨v5, rfl, ho5, hj5, hc5⟩
  obtain ⟨g5, cap5, rfl⟩ := ho5.form (by decide)
  have HJ5 := Lib.hid hj5; have HC5 := Lib.hid (HC3.out.trans hc5 (fun _ _ h => h)); have HO5 := Lib.hid ho5; clear hj5 hc5 HJ3 HC3 ho5 x3 x4
  go_wp2_with fail
  refine (feed3 HJ5.out).mono ?_
  rintro e w6 ⟨v6, rfl, ho6, hj6, hc6⟩
  obtain ⟨O6, cap6, rfl⟩ := ho6.none
  have ho7 := HO5.out.fed HJ5.out hc6
  have hcell : w6.cell? ⟨g5, 0, none⟩ = some (.string sab) := by
    have := World.ownsRow.cells ho7 (g := g5) rfl 0 (.string sab) rfl
    rw [add_at] at this
    exact this
  have HJ6 := Lib.hid hj6; have HC6 := Lib.hid (HC5.out.trans hc6 (fun _ _ h => h)); clear hj6 hc6 HJ5 HC5 ho6 HO5 ho7
  have s2 : sab.toList = [97, 98] := by rw [ByteArray.toList_eq]; rfl
  have s3 : (⟨#[97, 98]⟩ : ByteArray).toList = [97, 98] := by rw [ByteArray.toList_eq]
  have q1 := jbad_some HJ6.out
  have q2 := jseen_some HJ6.out
  rw [kbb] at q1
  rw [kbc] at q2
  have Q1 := Lib.hid q1; have Q2 := Lib.hid q2; clear q1 q2
  go_wp2_with (first | (go_at_call 15; refine Q1.out.mono ?_; rintro e w7 ⟨rfl, rfl⟩) | (go_at_call 16; refine Q2.out.mono ?_; rintro e w8 ⟨rfl, rfl⟩))
  go_ret
  exact ⟨rfl, HC6.out.toBelow (Nat.le_refl _) (fun k hk hkp => by omega)⟩
end Go.Proofs.Ytdgafpkigajgeaa
