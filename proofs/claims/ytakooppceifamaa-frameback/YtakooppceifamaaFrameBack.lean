/- The walk of FrameBack: it returns true. -/
import Derived.Test.YtakooppceifamaaFrmE
namespace Go.Proofs.Ytakooppceifamaa
open Go.RowKit Go.Lib Plain

theorem rem_at (z : Int) (r d : Nat) (hr : r ≤ 4096) (hd : 1 ≤ d) (hd2 : d ≤ 4096) : ∃ n : Nat, n < r + d ∧ wrap64 ((IntKind.u64.wrap z).tmod ((r : Int) + (d : Int))) = (n : Int) := by
  have h0 : 0 ≤ IntKind.u64.wrap z := wrap_u64_nonneg z
  rw [Int.tmod_eq_emod_of_nonneg h0]
  have a1 := Int.emod_nonneg (IntKind.u64.wrap z) (show (r : Int) + (d : Int) ≠ 0 by omega)
  have a2 := Int.emod_lt_of_pos (IntKind.u64.wrap z) (show (0 : Int) < (r : Int) + (d : Int) by omega)
  generalize IntKind.u64.wrap z % ((r : Int) + (d : Int)) = m at a1 a2
  exact ⟨m.toNat, by omega, by unfold wrap64; omega⟩

set_option maxRecDepth 100000 in
set_option maxHeartbeats 1600000 in
theorem back_walk (b h : ByteArray) (z : Int) (w : World) (hb : b.size ≤ maxLen) (hh : h.size ≤ maxLen) (hz : inI64 z) :
    Calls Try.prog 5 #[.string b, .string h, .int .i64 z] w fun e w' => e = .returned (.bool true) ∧ Below w.heap.size w w' := by
  by_cases g1 : 1024 < h.size
  · clear hb hh hz
    go_enter Try.func5, Try.ntmps5
    go_wp2_with (go_at_call 9; refine (awake_any _).mono ?_; rintro e w' ⟨rfl, hg⟩)
    go_ret
    exact ⟨rfl, hg⟩
  have c1 := fun wx => fof_any b wx hb
  by_cases kb : okB b.data.toList = true
  · rw [ofT_yes kb, ofE_yes kb] at c1
    have rb := (okB_iff _).1 kb
    rw [size_list] at rb
    obtain ⟨rb1, rb2⟩ := rb
    have z1 : (textOf (frm b.data.toList)).size = b.size + 6 := by rw [textOf_size, frm_length, size_list]
    have hw := frm_whole b.data.toList h.data.toList kb
    have hw0 := frm_whole b.data.toList [] kb
    rw [List.append_nil] at hw0
    have e1 : textOf (frm b.data.toList) ++ h = textOf (frm b.data.toList ++ h.data.toList) := by rw [← textOf_append, textOf_of]
    have c2 := fun wx => fnext_any (textOf (frm b.data.toList) ++ h) wx (by rw [ByteArray.size_append, z1]; omega)
    rw [e1, textOf_data, ← e1] at c2
    unfold nxtV at c2
    rw [hw.1, hw.2.1, hw.2.2, textOf_of, frm_length, size_list] at c2
    have c3 := fun k (hk : k < b.size + 6) wx => fnext_any ((textOf (frm b.data.toList)).extract 0 k) wx (by rw [ByteArray.size_extract, z1]; omega)
    have e3 : ∀ k, ((textOf (frm b.data.toList)).extract 0 k).data.toList = (frm b.data.toList).take k := fun k => by
      rw [ByteArray.data_extract, Array.toList_extract, List.extract_eq_take_drop, List.drop_zero, Nat.sub_zero, textOf_data]
    have c4 := fun wx => fbody_any (textOf (frm b.data.toList)) wx (by rw [z1]; omega)
    rw [textOf_data] at c4
    have hbd := body_cases (frm b.data.toList)
    rcases hbd with ⟨_, _, hT, hE⟩ | ⟨hno, _⟩
    · rw [hT, hE, hw0.2.1, textOf_of] at c4
      have hf : ∀ k, k < b.size + 6 → nSt ((frm b.data.toList).take k) = 2 := fun k hk => frm_front _ k kb (by rw [frm_length, size_list]; exact hk)
      have c3' : ∀ k, k < b.size + 6 → ∀ wx, Calls Try.prog 12 #[.string ((textOf (frm b.data.toList)).extract 0 k)] wx fun e w' => e = .returned (.tuple #[.string ⟨#[]⟩, .int .i64 0, .int .i64 2]) ∧ Below wx.heap.size wx w' := by
        intro k hk wx
        have := c3 k hk wx
        rw [e3, ← nxt_no (hf k hk) (by decide)] at this
        exact this
      clear c3 e3 hf hT hE hw hw0 e1
      have hx : b.size + 6 + h.size ≤ 1000000 := by omega
      generalize textOf (frm b.data.toList) = t1 at c1 c2 c3' c4 z1
      obtain ⟨k, hk, ek⟩ : ∃ n : Nat, n < b.size + 6 ∧ wrap64 ((IntKind.u64.wrap z).tmod ((b.size : Int) + (6 : Int))) = (n : Int) := rem_at z b.size 6 (by omega) (by omega) (by omega)
      have C1 := Lib.hid c1; have C2 := Lib.hid c2; have C3 := Lib.hid (c3' k hk); have C4 := Lib.hid c4; clear c1 c2 c3' c4 kb hb hh hz
      go_enter Try.func5, Try.ntmps5
      go_wp2_with fail
      refine (awake_any _).mono ?_
      rintro e w0 ⟨rfl, hb0⟩
      have HB0 := Lib.hid hb0; clear hb0
      go_wp2_with fail
      refine (C1.out _).mono ?_
      rintro e w1 ⟨rfl, hb1⟩
      have HB1 := Lib.hid (HB0.out.trans (hb1.mono HB0.out.size)); clear hb1 HB0
      go_wp2_with fail
      refine (C2.out _).mono ?_
      rintro e w2 ⟨rfl, hb2⟩
      have HB2 := Lib.hid (HB1.out.trans (hb2.mono HB1.out.size)); clear hb2 HB1
      go_wp2_with fail
      refine (C3.out _).mono ?_
      rintro e w3 ⟨rfl, hb3⟩
      have HB3 := Lib.hid (HB2.out.trans (hb3.mono HB2.out.size)); clear hb3 HB2
      go_wp2_with fail
      refine (C4.out _).mono ?_
      rintro e w4 ⟨rfl, hb4⟩
      have HB4 := Lib.hid (HB3.out.trans (hb4.mono HB3.out.size)); clear hb4 HB3
      go_wp2_with fail
      go_ret
      exact ⟨rfl, HB4.out⟩
    · exact absurd ⟨hw0.1, hw0.2.2⟩ hno
  · have kb : okB b.data.toList = false := by simpa using kb
    rw [ofT_no kb, ofE_no kb] at c1
    have hn : ¬ (1 ≤ b.size ∧ b.size ≤ 2048) := fun h => by
      have := (okB_iff b.data.toList).2 (by rw [size_list]; exact h)
      rw [kb] at this; exact absurd this (by decide)
    have C1 := Lib.hid c1; clear c1 kb hh hz
    have x0 : (textOf []).toList = [] := by rw [ByteArray.toList_eq]; rfl
    have x1 : (⟨#[]⟩ : ByteArray).toList = [] := by rw [ByteArray.toList_eq]
    by_cases h0 : b.size = 0
    · go_enter Try.func5, Try.ntmps5
      go_wp2_with fail
      refine (awake_any _).mono ?_
      rintro e w0 ⟨rfl, hb0⟩
      have HB0 := Lib.hid hb0; clear hb0
      go_wp2_with fail
      refine (C1.out _).mono ?_
      rintro e w1 ⟨rfl, hb1⟩
      have HB1 := Lib.hid (HB0.out.trans (hb1.mono HB0.out.size)); clear hb1 HB0
      go_wp2_with fail
      go_ret
      exact ⟨ret_bool (by first | (simp; done) | (simp; omega)), HB1.out⟩
    · have h3 : 2048 < b.size := by omega
      go_enter Try.func5, Try.ntmps5
      go_wp2_with fail
      refine (awake_any _).mono ?_
      rintro e w0 ⟨rfl, hb0⟩
      have HB0 := Lib.hid hb0; clear hb0
      go_wp2_with fail
      refine (C1.out _).mono ?_
      rintro e w1 ⟨rfl, hb1⟩
      have HB1 := Lib.hid (HB0.out.trans (hb1.mono HB0.out.size)); clear hb1 HB0
      go_wp2_with fail
      go_ret
      exact ⟨ret_bool (by first | (simp; done) | (simp; omega)), HB1.out⟩
end Go.Proofs.Ytakooppceifamaa
