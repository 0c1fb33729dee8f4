/- The contracts of the document's own answers: hoistwayref03.Of and hoistwayref03.Next. -/
import Derived.Test.YtdgafpkigajgeaaFrmC
import Derived.Test.YtdgafpkigajgeaaRefA
import Derived.BigQuiet
namespace Go.Proofs.Ytdgafpkigajgeaa
open Go.RowKit Go.Lib Plain

theorem byte_of (m d : Nat) : ((m : Int).tdiv (d : Int)) % 256 = ((UInt8.ofNat (m / d)).toNat : Int) := by
  rw [Int.tdiv_eq_ediv_of_nonneg (by omega), UInt8.toNat_ofNat', ← Int.natCast_ediv]
  omega
theorem byte_of0 (m : Nat) : ((m : Int).tmod 256) % 256 = ((UInt8.ofNat (m / 1)).toNat : Int) := by
  rw [Int.tmod_eq_emod_of_nonneg (by omega), UInt8.toNat_ofNat']
  omega
def sumCells (x : BitVec 32) : Array Value := #[.int .u8 ((Sum.N x).tmod 256 % 256), .int .u8 ((Sum.N x).tdiv 256 % 256), .int .u8 ((Sum.N x).tdiv 65536 % 256), .int .u8 ((Sum.N x).tdiv 16777216 % 256)]
theorem conv_sum (w : World) (x : BitVec 32) : (convert 54 9 (.slice (some ⟨w.heap.size, 0, none⟩) 4 4)).run Try.prog (w.alloc (.cells (sumCells x) 5)) = .ok (.string (textOf (le4 x))) (w.alloc (.cells (sumCells x) 5)) := by
  refine conv_own (own_at (B := w.heap.size) (At.new w 5 _) (Nat.le_refl _) (le4_length x) ?_ (by unfold maxLen; omega))
  have b1 : ((x.toNat : Int).tdiv 256) % 256 = _ := byte_of x.toNat 256
  have b2 : ((x.toNat : Int).tdiv 65536) % 256 = _ := byte_of x.toNat 65536
  have b3 : ((x.toNat : Int).tdiv 16777216) % 256 = _ := byte_of x.toNat 16777216
  unfold sumCells Sum.N
  rw [byte_of0, b1, b2, b3, le4_eq]
  rfl

set_option maxRecDepth 100000 in
set_option maxHeartbeats 1600000 in
theorem rof_any (s : ByteArray) (w : World) (_ : s.size ≤ maxLen) :
    Calls Try.prog 26 #[.string s] w fun e w' => e = .returned (.tuple #[.string (textOf (ofT s.data.toList)), .bool (okB s.data.toList)]) ∧ Below w.heap.size w w' := by
  by_cases hk : okB s.data.toList = true
  · have hl := (okB_iff _).1 hk
    rw [size_list] at hl
    obtain ⟨hl1, hl2⟩ := hl
    have cn := rnum_ok 2 (s.size : Int) w (by decide) (by omega) (by omega)
    have z1 : (textOf (num 2 (s.size : Int))).size = 2 := by rw [textOf_size, num_length]; rfl
    have e1 : textOf (num 2 (s.size : Int)) ++ s = textOf (hd s.data.toList) := by
      unfold hd; rw [size_list, ← textOf_append, textOf_of]
    generalize textOf (num 2 (s.size : Int)) = t1 at cn z1 e1
    have z2 : (textOf (hd s.data.toList)).size ≤ maxLen := by rw [textOf_size, hd_length, size_list]; unfold maxLen; omega
    have CN := Lib.hid cn; have HK := Lib.hid hk; have E1 := Lib.hid e1; have Z2 := Lib.hid z2
    clear cn hk e1 z2
    go_enter Try.func26, Try.ntmps26
    go_wp2_with fail
    refine CN.out.mono ?_
    rintro e w1 ⟨rfl, hb1⟩
    have cu := Sum.ref_any (textOf (hd s.data.toList)) w1 Z2.out
    rw [textOf_data] at cu
    have e1 := E1.out
    have HB1 := Lib.hid hb1; clear hb1
    have z3 : (textOf (hd s.data.toList)).size = s.size + 2 := by rw [textOf_size, hd_length, size_list]
    have e2 : textOf (hd s.data.toList) ++ textOf (le4 (crc (hd s.data.toList))) = textOf (frm s.data.toList) := textOf_append _ _
    generalize textOf (hd s.data.toList) = t2 at cu e1 e2 z3
    generalize crc (hd s.data.toList) = x at cu e2
    have hcv := conv_sum w1 x
    have z4 : (textOf (le4 x)).size = 4 := by rw [textOf_size, le4_length]
    unfold sumCells at hcv
    generalize textOf (le4 x) = t3 at hcv e2 z4
    have CU := Lib.hid cu; have E2 := Lib.hid e2; clear cu e2
    go_wp2_with (go_at_call 35; refine CU.out.mono ?_; rintro e w2 ⟨rfl, rfl⟩)
    go_ret2
    exact ⟨ret_sb (by rw [E2.out, ofT_yes HK.out]) HK.out.symm, HB1.out.alloc HB1.out.size _⟩
  · have hk : okB s.data.toList = false := by simpa using hk
    have hn : ¬ (1 ≤ s.size ∧ s.size ≤ 2048) := fun h => by
      have := (okB_iff s.data.toList).2 (by rw [size_list]; exact h)
      rw [hk] at this; exact absurd this (by decide)
    have e1 := ofT_no hk
    rw [e1, hk]
    clear hk e1
    by_cases h1 : s.size < 1
    · have h0 : s.size = 0 := by omega
      go_enter Try.func26, Try.ntmps26
      go_wp2_with fail
      go_ret2
      exact ⟨rfl, Below.refl _ _⟩
    · have h2 : 2048 < s.size := by omega
      go_enter Try.func26, Try.ntmps26
      go_wp2_with fail
      go_ret2
      exact ⟨rfl, Below.refl _ _⟩

namespace Plain
theorem enc_dec2 (a b : UInt8) : enc 2 (dec [a, b]) = [a, b] := by
  have ha := a.toNat_lt
  have hb := b.toNat_lt
  have e : dec [a, b] = a.toNat * 256 + b.toNat := by simp [dec]
  show [UInt8.ofNat (dec [a, b] / 256 ^ 1), UInt8.ofNat (dec [a, b] / 256 ^ 0)] = _
  rw [e]
  congr 1
  · apply UInt8.toNat.inj; rw [UInt8.toNat_ofNat']; omega
  · congr 1
    apply UInt8.toNat.inj; rw [UInt8.toNat_ofNat']; omega
theorem take2 (l : List UInt8) (h : ¬ l.length < 2) : l.take 2 = num 2 (lenOf l : Int) := by
  match l, h with
  | [], h => exact absurd (by simp) h
  | [a], h => exact absurd (by simp) h
  | a :: b :: r, _ =>
    show [a, b] = enc 2 (dec [a, b])
    exact (enc_dec2 a b).symm
theorem hd_of (l : List UInt8) (h : ¬ l.length < 2) (h6 : lenOf l + 6 ≤ l.length) : hd ((l.drop 2).take (lenOf l)) = l.take (2 + lenOf l) := by
  unfold hd
  rw [List.length_take, List.length_drop, Nat.min_eq_left (by omega), ← take2 l h, List.take_add]
theorem frm_of (l : List UInt8) (h : ¬ l.length < 2) (h6 : lenOf l + 6 ≤ l.length) :
    frm ((l.drop 2).take (lenOf l)) = l.take (lenOf l + 6) ↔ (l.drop (2 + lenOf l)).take 4 = le4 (crc (l.take (2 + lenOf l))) := by
  unfold frm
  have e : l.take (2 + lenOf l + 4) = l.take (2 + lenOf l) ++ (l.drop (2 + lenOf l)).take 4 := List.take_add
  rw [hd_of l h h6, show lenOf l + 6 = 2 + lenOf l + 4 by omega, e, List.append_cancel_left_eq]
  exact ⟨fun h => h.symm, fun h => h.symm⟩
end Plain

theorem below_drewN (w : World) (n : Nat) : Below w.heap.size w (w.drewN n) := ⟨rfl, rfl, rfl, Nat.le_refl _, fun _ _ => rfl⟩
set_option maxRecDepth 100000 in
set_option maxHeartbeats 1600000 in
theorem rnext_any (s : ByteArray) (w : World) (hs : s.size ≤ 281474976710656) :
    Calls Try.prog 19 #[.string s] w fun e w' => e = .returned (nxtV s.data.toList) ∧ Below w.heap.size w w' := by
  by_cases h2 : s.size < 2
  · have hst := nSt_short (l := s.data.toList) (by rw [size_list]; exact h2)
    have HST := Lib.hid hst; clear hst
    go_enter Try.func19, Try.ntmps19
    go_wp2_with fail
    go_ret3
    exact ⟨nxt_no HST.out (by decide), Below.refl _ _⟩
  · have hl2 : ¬ s.data.toList.length < 2 := by rw [size_list]; exact h2
    have i0 : 0 < s.size := by omega
    have i1 : 1 < s.size := by omega
    have hn : lenOf s.data.toList = s[0].toNat * 256 + s[1].toNat := by
      unfold lenOf
      rw [take_snoc s 1 i1, take_snoc s 0 i0, List.take_zero]
      simp [dec]
    have u0 := s[0].toNat_lt
    have u1 := s[1].toNat_lt
    have e1 : IntKind.i64.wrap ((s[0].toNat : Int)) = (s[0].toNat : Int) := IntWalk.i64_in _ (by omega)
    have e2 : IntKind.i64.wrap ((s[1].toNat : Int)) = (s[1].toNat : Int) := IntWalk.i64_in _ (by omega)
    have e3 : IntKind.i64.wrap ((s[0].toNat : Int) * 256) = (s[0].toNat : Int) * 256 := IntWalk.i64_in _ (by omega)
    have e4 : IntKind.i64.wrap ((s[0].toNat : Int) * 256 + (s[1].toNat : Int)) = (s[0].toNat : Int) * 256 + (s[1].toNat : Int) := IntWalk.i64_in _ (by omega)
    have hz : (0 : Int) < (s.size : Int) := by omega
    have hz1 : (1 : Int) < (s.size : Int) := by omega
    go_enter Try.func19, Try.ntmps19
    go_wp2_with fail
    go_quiet (fail)
    have hd0 : Below w.heap.size w (w.drewN nq) := below_drewN w nq
    have hdz : (w.drewN nq).heap.size = w.heap.size := rfl
    generalize w.drewN nq = wd at hd0 hdz
    have hn' : (s[0].toNat : Int) * (256 : Int) + (s[1].toNat : Int) = (lenOf s.data.toList : Int) := by rw [hn]; omega
    rw [hn']
    have hns : lenOf s.data.toList < 65536 := by omega
    clear e1 e2 e3 e4 hn hn'
    generalize s[0].toNat = c0 at u0 ⊢
    generalize s[1].toNat = c1 at u1 ⊢
    generalize hln : lenOf s.data.toList = n at hns
    have HLN := Lib.hid hln; have HD0 := Lib.hid hd0; have HL2 := Lib.hid hl2; clear hln hd0 hl2 u0 u1
    by_cases hok : 1 ≤ n ∧ n ≤ 2048
    · obtain ⟨o1, o2⟩ := hok
      by_cases h6 : s.size < n + 6
      · have hst := nSt_more HL2.out (by rw [HLN.out]; omega) (by rw [size_list, HLN.out]; exact h6)
        have HST := Lib.hid hst; clear hst
        go_wp2_with fail
        go_ret3
        exact ⟨nxt_no HST.out (by decide), HD0.out⟩
      · have hst := nSt_sum HL2.out (by rw [HLN.out]; omega) (by rw [size_list, HLN.out]; exact h6)
        have hfr := frm_of s.data.toList HL2.out (by rw [size_list, HLN.out]; omega)
        rw [HLN.out] at hst hfr
        have q1 : s.extract 2 (n + 2) = textOf ((s.data.toList.drop 2).take n) := by
          apply ByteArray.ext; apply Array.ext'
          rw [ByteArray.data_extract, Array.toList_extract, List.extract_eq_take_drop, textOf_data, show n + 2 - 2 = n by omega]
        have hkb : okB ((s.data.toList.drop 2).take n) = true := by
          rw [okB_iff, List.length_take, List.length_drop, size_list]; omega
        have co := rof_any (s.extract 2 (n + 2)) wd (by rw [ByteArray.size_extract]; unfold maxLen; omega)
        rw [q1, textOf_data, ofT_yes hkb, hkb] at co
        rw [← q1] at co
        have hnb : nSt s.data.toList = 1 → nBody s.data.toList = (s.data.toList.drop 2).take n := fun h => by rw [nBody_yes h, HLN.out]
        have hnu : nSt s.data.toList = 1 → nUsed s.data.toList = n + 6 := fun h => by rw [nUsed_yes h, HLN.out]
        have q3 : (s.extract 0 (n + 6)).toList = s.data.toList.take (n + 6) := by
          rw [ByteArray.toList_eq, ByteArray.data_extract, Array.toList_extract, List.extract_eq_take_drop, List.drop_zero, Nat.sub_zero]
        have q2 : ∀ l : List UInt8, (textOf l).toList = l := fun l => by rw [ByteArray.toList_eq]; exact textOf_data l
        have hw6 : n + 6 ≤ s.size := by omega
        have hw2 : n + 2 ≤ s.size := by omega
        by_cases hc : frm ((s.data.toList.drop 2).take n) = s.data.toList.take (n + 6)
        · rw [if_pos (hfr.1 hc)] at hst
          have q4 : ((textOf (frm ((s.data.toList.drop 2).take n))).toList == (s.extract 0 (n + 6)).toList) = true := by rw [q2, q3, hc]; exact beq_self_eq_true _
          have hv : nxtV s.data.toList = .tuple #[.string (s.extract 2 (n + 2)), .int .i64 ((n : Int) + 6), .int .i64 1] := by
            unfold nxtV; rw [hnb hst, hnu hst, hst, q1]; rfl
          generalize textOf (frm ((s.data.toList.drop 2).take n)) = t1 at co q4
          have CO := Lib.hid co; have HV := Lib.hid hv; clear co hv hnb hnu q1 q2 q3 hfr hst hkb hc
          go_wp2_with (first | (go_at_call 26; refine CO.out.mono ?_; rintro e w1 ⟨rfl, hb1⟩))
          go_ret3
          exact ⟨by rw [HV.out]; rfl, HD0.out.trans (hb1.mono (by rw [hdz]; exact Nat.le_refl _))⟩
        · rw [if_neg (fun h => hc (hfr.2 h))] at hst
          have q4 : ((textOf (frm ((s.data.toList.drop 2).take n))).toList == (s.extract 0 (n + 6)).toList) = false := by rw [q2, q3]; exact beq_eq_false_iff_ne.2 hc
          generalize textOf (frm ((s.data.toList.drop 2).take n)) = t1 at co q4
          have CO := Lib.hid co; have HST := Lib.hid hst; clear co hnb hnu q1 q2 q3 hfr hst hkb hc
          go_wp2_with (first | (go_at_call 26; refine CO.out.mono ?_; rintro e w1 ⟨rfl, hb1⟩))
          go_ret3
          exact ⟨nxt_no HST.out (by decide), HD0.out.trans (hb1.mono (by rw [hdz]; exact Nat.le_refl _))⟩
    · have hst := nSt_len HL2.out (by rw [HLN.out]; omega)
      have HST := Lib.hid hst; clear hst
      by_cases h0 : n < 1
      · have h00 : n = 0 := by omega
        subst h00
        go_wp2_with fail
        go_ret3
        exact ⟨nxt_no HST.out (by decide), HD0.out⟩
      · have h9 : 2048 < n := by omega
        go_wp2_with fail
        go_ret3
        exact ⟨nxt_no HST.out (by decide), HD0.out⟩
end Go.Proofs.Ytdgafpkigajgeaa
