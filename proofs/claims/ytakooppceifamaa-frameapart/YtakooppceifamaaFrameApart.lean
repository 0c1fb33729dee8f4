/- The walk of FrameApart: it returns true. -/
import Derived.Test.YtakooppceifamaaFrmD
import Derived.Test.YtakooppceifamaaFrmE
import Derived.BigQuiet
namespace Go.Proofs.Ytakooppceifamaa
open Go.RowKit Go.Lib Plain

theorem toList_ne {a b : ByteArray} (h : a ≠ b) : (a.toList == b.toList) = false := by
  rw [beq_eq_false_iff_ne, ByteArray.toList_eq, ByteArray.toList_eq]
  intro e; apply h; apply ByteArray.ext; exact Array.ext' e
theorem textOf_ne {a b : List UInt8} (h : a ≠ b) : textOf a ≠ textOf b := fun e => h (by rw [← textOf_data a, e, textOf_data])
theorem front_ne (a b : List UInt8) (n : Nat) (ha : okB a = true) (hb : okB b = true) (h : a ≠ b) (hn : n = (frm a).length ∨ n = (frm b).length) : (frm a).take n ≠ (frm b).take n := by
  intro e
  rcases hn with rfl | rfl
  · rw [List.take_of_length_le (Nat.le_refl _)] at e
    have h1 := List.take_append_drop (frm a).length (frm b)
    rw [← e] at h1
    have : frm a ++ (frm b).drop (frm a).length = frm b ++ [] := by rw [h1, List.append_nil]
    exact h (frm_inj a b _ _ ha hb this)
  · rw [List.take_of_length_le (l := frm b) (Nat.le_refl _)] at e
    have h1 := List.take_append_drop (frm b).length (frm a)
    rw [e] at h1
    have : frm a ++ [] = frm b ++ (frm a).drop (frm b).length := by rw [h1, List.append_nil]
    exact h (frm_inj a b _ _ ha hb this)

set_option maxRecDepth 100000 in
set_option maxHeartbeats 1600000 in
theorem apart_walk (a b : ByteArray) (w : World) (ha : a.size ≤ maxLen) (hb : b.size ≤ maxLen) :
    Calls Try.prog 8 #[.string a, .string b] w fun e w' => e = .returned (.bool true) ∧ Below w.heap.size w w' := by
  have c1 := fun wx => fof_any a wx ha
  have c2 := fun wx => fof_any b wx hb
  clear ha hb
  have start : ∀ wx, Calls Try.prog 9 #[] wx fun e w' => e = .returned (.bool true) ∧ Below wx.heap.size wx w' := awake_any
  by_cases ka : okB a.data.toList = true
  · by_cases kb : okB b.data.toList = true
    · rw [ofT_yes ka, ofE_yes ka] at c1
      rw [ofT_yes kb, ofE_yes kb] at c2
      have ra := (okB_iff _).1 ka
      have rb := (okB_iff _).1 kb
      rw [size_list] at ra rb
      have za : (textOf (frm a.data.toList)).size = a.size + 6 := by rw [textOf_size, frm_length, size_list]
      have zb : (textOf (frm b.data.toList)).size = b.size + 6 := by rw [textOf_size, frm_length, size_list]
      obtain ⟨ra1, ra2⟩ := ra
      obtain ⟨rb1, rb2⟩ := rb
      by_cases hab : a = b
      · subst hab
        generalize textOf (frm a.data.toList) = t1 at c1 za
        clear c2 zb ka kb
        have C1 := Lib.hid c1; clear c1
        go_enter Try.func8, Try.ntmps8
        go_wp2_with fail
        refine (awake_any _).mono ?_
        rintro e w0 ⟨rfl, hb0⟩
        have HB0 := Lib.hid hb0; clear hb0
        go_wp2_with fail
        refine (C1.out _).mono ?_
        rintro e w1 ⟨rfl, hb1⟩
        have HB1 := Lib.hid (HB0.out.trans (hb1.mono HB0.out.size)); clear hb1 HB0
        go_wp2_with fail
        refine (C1.out _).mono ?_
        rintro e w2 ⟨rfl, hb2⟩
        have HB2 := Lib.hid (HB1.out.trans (hb2.mono HB1.out.size)); clear hb2 HB1
        go_wp2_with fail
        go_quiet (fail)
        go_wp2_with fail
        go_ret
        exact ⟨rfl, HB2.out.trans ((below_drewN _ _).mono HB2.out.size)⟩
      · have hne : a.data.toList ≠ b.data.toList := fun e => hab (ByteArray.ext (Array.ext' e))
        have q0 := toList_ne hab
        have q1 : ((textOf (frm a.data.toList)).toList == (textOf (frm b.data.toList)).toList) = false := toList_ne (textOf_ne (fun e => hne (frm_inj _ _ [] [] ka kb (by rw [e]))))
        have q2 : ∀ n, n = a.size + 6 ∨ n = b.size + 6 → (((textOf (frm a.data.toList)).extract 0 n).toList == ((textOf (frm b.data.toList)).extract 0 n).toList) = false := by
          intro n hn
          rw [beq_eq_false_iff_ne, ByteArray.toList_eq, ByteArray.toList_eq, ByteArray.data_extract, ByteArray.data_extract, Array.toList_extract, Array.toList_extract, List.extract_eq_take_drop, List.extract_eq_take_drop, List.drop_zero, List.drop_zero, Nat.sub_zero, textOf_data, textOf_data]
          exact front_ne _ _ n ka kb hne (by rw [frm_length, frm_length, size_list, size_list]; exact hn)
        generalize textOf (frm a.data.toList) = t1 at c1 za q1 q2
        generalize textOf (frm b.data.toList) = t2 at c2 zb q1 q2
        have C1 := Lib.hid c1; have C2 := Lib.hid c2; clear c1 c2 ka kb hne
        have Q2 := Lib.hid q2; clear q2
        go_enter Try.func8, Try.ntmps8
        go_wp2_with fail
        refine (awake_any _).mono ?_
        rintro e w0 ⟨rfl, hb0⟩
        have HB0 := Lib.hid hb0; clear hb0
        go_wp2_with fail
        refine (C1.out _).mono ?_
        rintro e w1 ⟨rfl, hb1⟩
        have HB1 := Lib.hid (HB0.out.trans (hb1.mono HB0.out.size)); clear hb1 HB0
        go_wp2_with fail
        refine (C2.out _).mono ?_
        rintro e w2 ⟨rfl, hb2⟩
        have HB2 := Lib.hid (HB1.out.trans (hb2.mono HB1.out.size)); clear hb2 HB1
        go_wp2_with fail
        obtain ⟨m, hm⟩ : ∃ m : Nat, m = min a.size b.size + 6 := ⟨_, rfl⟩
        have em : min (a.size : Int) (b.size : Int) + (6 : Int) = (m : Int) := by omega
        rw [em]
        have hq := Q2.out m (by omega)
        have hm1 : (m : Int) ≤ (t1.size : Int) := by omega
        have hm2 : (m : Int) ≤ (t2.size : Int) := by omega
        have hm3 : (0 : Int) ≤ (m : Int) := by omega
        clear em Q2 hm
        go_quiet (fail)
        go_wp2_with fail
        go_ret
        exact ⟨rfl, HB2.out.trans ((below_drewN _ _).mono HB2.out.size)⟩
    · have kb : okB b.data.toList = false := by simpa using kb
      rw [ofT_yes ka, ofE_yes ka] at c1
      rw [ofT_no kb, ofE_no kb] at c2
      have C1 := Lib.hid c1; have C2 := Lib.hid c2; clear c1 c2 ka kb
      go_enter Try.func8, Try.ntmps8
      go_wp2_with fail
      refine (awake_any _).mono ?_
      rintro e w0 ⟨rfl, hb0⟩
      have HB0 := Lib.hid hb0; clear hb0
      go_wp2_with fail
      refine (C1.out _).mono ?_
      rintro e w1 ⟨rfl, hb1⟩
      have HB1 := Lib.hid (HB0.out.trans (hb1.mono HB0.out.size)); clear hb1 HB0
      go_wp2_with fail
      refine (C2.out _).mono ?_
      rintro e w2 ⟨rfl, hb2⟩
      have HB2 := Lib.hid (HB1.out.trans (hb2.mono HB1.out.size)); clear hb2 HB1
      go_wp2_with fail
      go_ret
      exact ⟨rfl, HB2.out⟩
  · have ka : okB a.data.toList = false := by simpa using ka
    rw [ofT_no ka, ofE_no ka] at c1
    have C1 := Lib.hid c1; have C2 := Lib.hid c2; clear c1 c2 ka
    go_enter Try.func8, Try.ntmps8
    go_wp2_with fail
    refine (awake_any _).mono ?_
    rintro e w0 ⟨rfl, hb0⟩
    have HB0 := Lib.hid hb0; clear hb0
    go_wp2_with fail
    refine (C1.out _).mono ?_
    rintro e w1 ⟨rfl, hb1⟩
    have HB1 := Lib.hid (HB0.out.trans (hb1.mono HB0.out.size)); clear hb1 HB0
    go_wp2_with fail
    refine (C2.out _).mono ?_
    rintro e w2 ⟨rfl, hb2⟩
    have HB2 := Lib.hid (HB1.out.trans (hb2.mono HB1.out.size)); clear hb2 HB1
    go_wp2_with fail
    go_ret
    exact ⟨rfl, HB2.out⟩
end Go.Proofs.Ytakooppceifamaa
