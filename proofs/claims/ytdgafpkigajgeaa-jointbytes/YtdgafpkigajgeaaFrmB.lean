/- The contracts of frame.Of, frame.Next and frame.Body. -/
import Derived.Test.YtdgafpkigajgeaaFrmA
import Derived.OwnWalk
namespace Go.Proofs.Ytdgafpkigajgeaa
open Go.RowKit Go.Lib Plain

theorem textOf_append (a b : List UInt8) : textOf a ++ textOf b = textOf (a ++ b) := by
  apply ByteArray.ext; rw [ByteArray.data_append]; simp [textOf]
theorem size_list (s : ByteArray) : s.data.toList.length = s.size := Array.length_toList
theorem lenOk_okB (s : ByteArray) : lenOk (s.size : Int) = okB s.data.toList := by
  unfold lenOk okB
  rw [size_list, Bool.eq_iff_iff]; simp; omega
theorem ret_si {s t : ByteArray} {a b : Int} (h : s = t) (h2 : a = b) : Ending.returned (.tuple #[.string s, .int .i64 a]) = .returned (.tuple #[.string t, .int .i64 b]) := by rw [h, h2]
theorem ret_sii {s t : ByteArray} {a b c d : Int} (h : s = t) (h2 : a = b) (h3 : c = d) : Ending.returned (.tuple #[.string s, .int .i64 a, .int .i64 c]) = .returned (.tuple #[.string t, .int .i64 b, .int .i64 d]) := by rw [h, h2, h3]

set_option maxRecDepth 100000 in
set_option maxHeartbeats 1600000 in
theorem fof_any (s : ByteArray) (w : World) (hs : s.size ≤ maxLen) :
    Calls Try.prog 17 #[.string s] w fun e w' => e = .returned (.tuple #[.string (textOf (ofT s.data.toList)), .int .i64 (ofE s.data.toList)]) ∧ Below w.heap.size w w' := by
  by_cases hk : okB s.data.toList = true
  · have hl : lenOk (s.size : Int) = true := by rw [lenOk_okB]; exact hk
    have hz : s.size ≤ 2048 := by have := (okB_iff _).1 hk; rw [size_list] at this; omega
    have e1 : textd s [] = hd s.data.toList := by rw [textd_yes [] (by omega)]; unfold hd; rw [size_list]; rfl
    have e2 : (textOf (hd s.data.toList)).size ≤ maxLen := by rw [textOf_size, hd_length, size_list]; unfold maxLen; omega
    have HK := Lib.hid hk; have HL := Lib.hid hl; have HS := Lib.hid hs; have E1 := Lib.hid e1; have E2 := Lib.hid e2; have HZ := Lib.hid hz; clear hk hl hs e1 e2 hz
    go_enter Try.func17, Try.ntmps17
    go_wp2_with (first | (go_at_call 20; refine (isLen_yes _ _ HL.out).mono ?_; rintro e w' ⟨rfl, rfl⟩) | fail)
    refine (text_some w.heap.size w.heap.size _ [] s _ (Out.new w w.heap.size (Nat.le_refl _)) (by simp) HS.out (by simp)).mono ?_
    rintro e w1 ⟨rfl, v1, ho1, hc1, hl1⟩
    rw [E1.out] at ho1
    have hd1 : decide (s.size ≤ 65535) = true := by have := HZ.out; simp; omega
    rw [hd1]
    have hb1 : Below w.heap.size w w1 := ((Below.refl _ _).alloc (Nat.le_refl _) _).trans (wrote_below (Out.new w w.heap.size (Nat.le_refl _)) (by simp) hc1)
    have cs := string_some ho1
    have cu := sumOf_any _ w1 E2.out
    rw [textOf_data] at cu
    have z1 : (textOf (hd s.data.toList)).size = s.size + 2 := by rw [textOf_size, hd_length, size_list]
    have z2 : (textOf (le4 (crc (hd s.data.toList)))).size = 4 := by rw [textOf_size, le4_length]
    have e3 : textOf (hd s.data.toList) ++ textOf (le4 (crc (hd s.data.toList))) = textOf (frm s.data.toList) := textOf_append _ _
    generalize textOf (hd s.data.toList) = t1 at cs cu z1 e3
    generalize textOf (le4 (crc (hd s.data.toList))) = t2 at cu z2 e3
    have hz := HZ.out
    have HB1 := Lib.hid hb1; have CS := Lib.hid cs; have CU := Lib.hid cu; have E3 := Lib.hid e3; clear ho1 hb1 hc1 hl1 hd1 cs cu e3 E1 E2
    go_wp2_with (first | (go_at_call 22; refine CS.out.mono ?_; rintro e w' ⟨rfl, rfl⟩) | (go_at_call 23; refine CU.out.mono ?_; rintro e w2 ⟨rfl, hb2⟩))
    go_ret2
    refine ⟨ret_si ?_ ?_, HB1.out.trans (hb2.mono HB1.out.size)⟩
    · rw [E3.out, ofT_yes HK.out]
    · rw [ofE_yes HK.out]
  · have hk : okB s.data.toList = false := by simpa using hk
    have hl : lenOk (s.size : Int) = false := by rw [lenOk_okB]; exact hk
    have HK := Lib.hid hk; have HL := Lib.hid hl; clear hk hl hs
    go_enter Try.func17, Try.ntmps17
    go_wp2_with (first | (go_at_call 20; refine (isLen_no _ _ HL.out).mono ?_; rintro e w' ⟨rfl, rfl⟩))
    go_ret2
    exact ⟨ret_si (by rw [ofT_no HK.out]; rfl) (by rw [ofE_no HK.out]), Below.refl _ _⟩

/-- what Next answers -/
def nxtV (l : List UInt8) : Value := .tuple #[.string (textOf (nBody l)), .int .i64 (nUsed l : Int), .int .i64 (nSt l : Int)]
theorem nxt_no {l : List UInt8} {k : Nat} (h : nSt l = k) (hk : k ≠ 1) : Ending.returned (.tuple #[.string ⟨#[]⟩, .int .i64 0, .int .i64 (k : Int)]) = .returned (nxtV l) := by
  have hn : nSt l ≠ 1 := by omega
  unfold nxtV
  rw [nBody_no hn, nUsed_no hn, h]; rfl
theorem new_in (w : World) (s : ByteArray) : InAt (w.alloc (.cells #[.string s, .bool false] 76)) w.heap.size s false := At.new w 76 _
theorem took_below {w w' : World} {p : Nat} {s : ByteArray} {bad : Bool} {B : Nat} (h : Took w p s bad w') (hB : B ≤ w.heap.size) (hp : B ≤ p) : Below B w w' := h.2.toBelow hB (fun k hk e => by omega)

set_option maxRecDepth 100000 in
set_option maxHeartbeats 1600000 in
theorem fnext_any (s : ByteArray) (w : World) (hs : s.size ≤ 281474976710656) :
    Calls Try.prog 24 #[.string s] w fun e w' => e = .returned (nxtV s.data.toList) ∧ Below w.heap.size w w' := by
  have hm : s.size ≤ maxLen := by unfold maxLen; omega
  have ib := new_in w s
  have ba : Below w.heap.size w (w.alloc (.cells #[.string s, .bool false] 76)) := (Below.refl _ _).alloc (Nat.le_refl _) _
  have HM := Lib.hid hm; have IB := Lib.hid ib; have BA := Lib.hid ba; clear hm ib ba
  by_cases h2 : s.size < 2
  · have hst := nSt_short (l := s.data.toList) (by rw [size_list]; exact h2)
    have HST := Lib.hid hst; clear hst
    go_enter Try.func24, Try.ntmps24
    go_wp2_with (go_at_call 29; refine (of_any s _).mono ?_; rintro e w' ⟨rfl, rfl⟩)
    refine (inum_bad 2 IB.out HM.out (fun h => by have := h.2.1; simp at this; omega)).mono ?_
    rintro e w1 ⟨rfl, ht⟩
    have hb1 := BA.out.trans (took_below ht (by simp) (Nat.le_refl _))
    have HB1 := Lib.hid hb1; have HT := Lib.hid ht.1; clear hb1 ht
    go_wp2_with (go_at_call 31; refine (bad_some HT.out).mono ?_; rintro e w' ⟨rfl, rfl⟩)
    go_ret3
    exact ⟨nxt_no HST.out (by decide), HB1.out⟩
  · have hl2 : ¬ s.data.toList.length < 2 := by rw [size_list]; exact h2
    generalize hn : lenOf s.data.toList = n
    have hdec : dec (s.data.toList.take (2 : Int).toNat) = n := hn
    have hn16 : n < 65536 := by rw [← hn]; have := dec_lt (s.data.toList.take 2); rw [List.length_take, Nat.min_eq_left (by omega)] at this; exact this
    have HDEC := Lib.hid hdec; have HNN := Lib.hid hn; have HL2 := Lib.hid hl2; clear hdec hn hl2
    go_enter Try.func24, Try.ntmps24
    go_wp2_with (go_at_call 29; refine (of_any s _).mono ?_; rintro e w' ⟨rfl, rfl⟩)
    refine (inum_ok 2 IB.out (by decide) (by simp; omega) HM.out (by rw [HDEC.out]; omega)).mono ?_
    rintro e w1 ⟨rfl, ht⟩
    rw [HDEC.out]
    have hb1 := BA.out.trans (took_below ht (by simp) (Nat.le_refl _))
    have hz1 : (textOf (s.data.toList.drop (2 : Int).toNat)).size = s.size - 2 := by rw [textOf_size, List.length_drop, size_list]; rfl
    generalize textOf (s.data.toList.drop (2 : Int).toNat) = s1 at ht hz1
    have HB1 := Lib.hid hb1; have HT := Lib.hid ht.1; clear hb1 ht IB BA
    by_cases hok : lenOk (n : Int) = true
    · have hnr : 1 ≤ n ∧ n ≤ 2048 := by unfold lenOk at hok; simp at hok; omega
      have HOK := Lib.hid hok; clear hok
      by_cases h6 : s.size < n + 6
      · have hst := nSt_more HL2.out (by rw [HNN.out]; omega) (by rw [size_list, HNN.out]; exact h6)
        have HST := Lib.hid hst; clear hst
        go_wp2_with (first | (go_at_call 31; refine (bad_some HT.out).mono ?_; rintro e w' ⟨rfl, rfl⟩) | (go_at_call 20; refine (isLen_yes _ _ HOK.out).mono ?_; rintro e w' ⟨rfl, rfl⟩) | (go_at_call 32; refine (left_some HT.out).mono ?_; rintro e w' ⟨rfl, rfl⟩))
        go_ret3
        exact ⟨nxt_no HST.out (by decide), HB1.out⟩
      · have hst := nSt_sum HL2.out (by rw [HNN.out]; omega) (by rw [size_list, HNN.out]; exact h6)
        rw [HNN.out] at hst
        have HST := Lib.hid hst; clear hst
        go_wp2_with (first | (go_at_call 31; refine (bad_some HT.out).mono ?_; rintro e w' ⟨rfl, rfl⟩) | (go_at_call 20; refine (isLen_yes _ _ HOK.out).mono ?_; rintro e w' ⟨rfl, rfl⟩) | (go_at_call 32; refine (left_some HT.out).mono ?_; rintro e w' ⟨rfl, rfl⟩))
        obtain ⟨a, ha⟩ : ∃ a : Nat, a = 2 + n := ⟨_, rfl⟩
        obtain ⟨b, hb⟩ : ∃ b : Nat, b = a + 4 := ⟨_, rfl⟩
        have eb : (2 : Int) + (n : Int) + 4 = (b : Int) := by omega
        have ea : (2 : Int) + (n : Int) = (a : Int) := by omega
        have hbs : b ≤ s.size := by omega
        have hab : a ≤ b := by omega
        have has : a ≤ s.size := by omega
        have ha2 : 2 ≤ a := by omega
        rw [eb, ea]
        rw [← ha] at HST
        have x1 : (s.extract 0 a).size ≤ maxLen := by rw [ByteArray.size_extract]; unfold maxLen; omega
        have X1 := Lib.hid x1; have HB2 := Lib.hid HB1.out.drew; have HA := Lib.hid ha; have HBE := Lib.hid hb; clear x1 HB1 eb ea ha hb
        have z1 := HB2.out.size
        go_region_held3 (fun w' => True)
          (first | trivial)
          ((go_at_call 23; (with_reducible refine (sumOf_any _ _ X1.out).mono ?_); rintro e w4 ⟨rfl, hb4⟩; have HB4 := Lib.hid (HB2.out.trans (hb4.mono z1)); clear hb4))
        have q1 : (s.extract a b).toList = (s.data.toList.drop a).take 4 := by
          rw [ByteArray.toList_eq, ByteArray.data_extract, Array.toList_extract, List.extract_eq_take_drop]
          rw [show b - a = 4 by have := HBE.out; omega]
        have q2 : ∀ l : List UInt8, (textOf l).toList = l := fun l => by rw [ByteArray.toList_eq]; exact textOf_data l
        rw [q1, q2]
        have hst := HST.out
        by_cases hc : (s.data.toList.drop a).take 4 = le4 (crc (s.data.toList.take a))
        · rw [if_pos hc] at hst
          rw [hc, beq_self_eq_true]
          have q3 : s.extract 2 a = textOf (nBody s.data.toList) := by
            rw [nBody_yes hst, HNN.out]
            apply ByteArray.ext; apply Array.ext'
            rw [ByteArray.data_extract, Array.toList_extract, List.extract_eq_take_drop, textOf_data, show a - 2 = n by have := HA.out; omega]
          have q4 : (b : Int) = (nUsed s.data.toList : Int) := by rw [nUsed_yes hst, HNN.out]; have := HA.out; have := HBE.out; omega
          have q5 : (s.extract 2 a).size ≤ 281474976710656 := by rw [ByteArray.size_extract]; omega
          have Q3 := Lib.hid q3; have Q4 := Lib.hid q4; have Q5 := Lib.hid q5; have HS1 := Lib.hid hst; clear q1 q2 q3 q4 q5 hc hst
          go_wp2_with (go_at_call 25; refine (clone_any _ _ Q5.out).mono ?_; rintro e w5 ⟨rfl, hb5⟩)
          go_ret3
          refine ⟨?_, HB4.out.trans (hb5.mono HB4.out.size)⟩
          unfold nxtV
          rw [Q3.out, Q4.out, HS1.out]; rfl
        · rw [if_neg hc] at hst
          have q6 : ((s.data.toList.drop a).take 4 == le4 (crc (s.data.toList.take a))) = false := beq_eq_false_iff_ne.2 hc
          rw [q6]
          have HS1 := Lib.hid hst; clear q1 q2 q6 hc hst
          go_wp2_with fail
          go_ret3
          exact ⟨nxt_no HS1.out (by decide), HB4.out⟩
    · have hok : lenOk (n : Int) = false := by simpa using hok
      have hst := nSt_len HL2.out (by rw [HNN.out]; unfold lenOk at hok; simp at hok; omega)
      have HST := Lib.hid hst; have HOK := Lib.hid hok; clear hst hok
      go_wp2_with (first | (go_at_call 31; refine (bad_some HT.out).mono ?_; rintro e w' ⟨rfl, rfl⟩) | (go_at_call 20; refine (isLen_no _ _ HOK.out).mono ?_; rintro e w' ⟨rfl, rfl⟩))
      go_ret3
      exact ⟨nxt_no HST.out (by decide), HB1.out⟩

end Go.Proofs.Ytdgafpkigajgeaa
