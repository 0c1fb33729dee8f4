/- The plain mathematics of frames, over lists of bytes: a length, the body, the sum with its lowest byte first. No Go text. -/
import Derived.Test.YtdgafpkigajgeaaPlain
import Derived.Test.YtdgafpkigajgeaaCrcPlain
namespace Go.Proofs.Ytdgafpkigajgeaa.Plain

/-- the k lowest bytes of a number, the lowest first -/
def le (k n : Nat) : List UInt8 := (List.range k).map fun j => UInt8.ofNat (n / 256 ^ j)
theorem le_length (k n : Nat) : (le k n).length = k := by simp [le]
theorem le_succ (k n : Nat) : le (k + 1) n = le k n ++ [UInt8.ofNat (n / 256 ^ k)] := by simp [le, List.range_succ]
/-- the sum's four bytes -/
def le4 (x : BitVec 32) : List UInt8 := le 4 x.toNat
theorem le4_length (x : BitVec 32) : (le4 x).length = 4 := le_length _ _
theorem le4_eq (x : BitVec 32) : le4 x = [UInt8.ofNat (x.toNat / 1), UInt8.ofNat (x.toNat / 256), UInt8.ofNat (x.toNat / 65536), UInt8.ofNat (x.toNat / 16777216)] := rfl

theorem ext_byte (n j i : Nat) (hi : i < 8) : (ext (UInt8.ofNat (n / 2 ^ (8 * j)))).getLsbD i = n.testBit (i + 8 * j) := by
  unfold ext
  rw [BitVec.getLsbD_setWidth]
  have : (UInt8.ofNat (n / 2 ^ (8 * j))).toBitVec.getLsbD i = (n / 2 ^ (8 * j) % 256).testBit i := by
    rw [BitVec.getLsbD]; rfl
  rw [this, show (256 : Nat) = 2 ^ 8 by rfl, Nat.testBit_mod_two_pow, Nat.testBit_div_two_pow]
  simp [show i < 32 by omega, hi]

theorem four_le (x : BitVec 32) (a b c d : UInt8) (h : [a, b, c, d] = le4 x) : four a b c d = x := by
  rw [le4_eq] at h
  injection h with ha h; injection h with hb h; injection h with hc h; injection h with hd h
  have ha : a = UInt8.ofNat (x.toNat / 2 ^ (8 * 0)) := ha
  have hb : b = UInt8.ofNat (x.toNat / 2 ^ (8 * 1)) := hb
  have hc : c = UInt8.ofNat (x.toNat / 2 ^ (8 * 2)) := hc
  have hd : d = UInt8.ofNat (x.toNat / 2 ^ (8 * 3)) := hd
  have X : ∀ i, x.getLsbD i = x.toNat.testBit i := fun i => rfl
  apply BitVec.eq_of_getLsbD_eq
  intro i hi
  rw [four_bit, X]
  obtain h8 | h8 : i < 8 ∨ 8 ≤ i := by omega
  · rw [ha, ext_byte _ 0 i h8]
    simp [h8, show i < 16 by omega, show i < 24 by omega]
  obtain h16 | h16 : i < 16 ∨ 16 ≤ i := by omega
  · rw [ext_hi a i h8, hb, ext_byte _ 1 (i - 8) (by omega), show i - 8 + 8 * 1 = i by omega]
    simp [h16, hi, show ¬ i < 8 by omega, show i < 24 by omega]
  obtain h24 | h24 : i < 24 ∨ 24 ≤ i := by omega
  · rw [ext_hi a i h8, ext_hi b (i - 8) (by omega), hc, ext_byte _ 2 (i - 16) (by omega), show i - 16 + 8 * 2 = i by omega]
    simp [h24, hi, show ¬ i < 16 by omega]
  · rw [ext_hi a i h8, ext_hi b (i - 8) (by omega), ext_hi c (i - 16) (by omega), hd, ext_byte _ 3 (i - 24) (by omega), show i - 24 + 8 * 3 = i by omega]
    simp [hi, show ¬ i < 24 by omega]

theorem four_xor (a b c d x y z t : UInt8) : four a b c d ^^^ four x y z t = four (a ^^^ x) (b ^^^ y) (c ^^^ z) (d ^^^ t) := by
  have hs : ∀ (u v : BitVec 32) (k : Nat), (u ^^^ v) <<< k = u <<< k ^^^ v <<< k := fun u v k => BitVec.shiftLeft_xor_distrib u v k
  unfold four
  rw [ext_xor, ext_xor, ext_xor, ext_xor, hs, hs, hs]
  generalize ext a = a0
  generalize ext x = x0
  generalize ext b <<< 8 = b0
  generalize ext y <<< 8 = y0
  generalize ext c <<< 16 = c0
  generalize ext z <<< 16 = z0
  generalize ext d <<< 24 = d0
  generalize ext t <<< 24 = t0
  ac_rfl
theorem u8_zero (a b : UInt8) (h : a ^^^ b = 0) : a = b := by
  have := congrArg (· ^^^ b) h
  simpa [UInt8.xor_assoc] using this
theorem four_inj (a b c d x y z t : UInt8) (h : four a b c d = four x y z t) : [a, b, c, d] = [x, y, z, t] := by
  have h0 : four (a ^^^ x) (b ^^^ y) (c ^^^ z) (d ^^^ t) = 0#32 := by rw [← four_xor, h, BitVec.xor_self]
  obtain ⟨h1, h2, h3, h4⟩ := four_zero _ _ _ _ h0
  rw [u8_zero _ _ h1, u8_zero _ _ h2, u8_zero _ _ h3, u8_zero _ _ h4]
theorem four_iff (x : BitVec 32) (a b c d : UInt8) : [a, b, c, d] = le4 x ↔ four a b c d = x := by
  constructor
  · exact four_le x a b c d
  · intro h
    obtain ⟨p, q, r, s, e⟩ : ∃ p q r s, le4 x = [p, q, r, s] := ⟨_, _, _, _, le4_eq x⟩
    rw [e]
    exact four_inj _ _ _ _ _ _ _ _ (h.trans (four_le x p q r s e.symm).symm)

/-- what the sum of bytes with their right sum behind them is -/
def res : BitVec 32 := shn 32 ones ^^^ ones
theorem sum_iff (m : List UInt8) (s : List UInt8) (h4 : s.length = 4) : s = le4 (crc m) ↔ crc (m ++ s) = res := by
  obtain ⟨a, b, c, d, rfl⟩ : ∃ a b c d, s = [a, b, c, d] := by
    match s, h4 with
    | [a, b, c, d], _ => exact ⟨a, b, c, d, rfl⟩
  rw [four_iff]
  have e1 : crc (m ++ [a, b, c, d]) = shn 32 (reg ones m ^^^ four a b c d) ^^^ ones := by
    unfold crc more
    rw [BitVec.zero_xor, reg_append]
    have := reg_lin (reg ones m) 0#32 [a, b, c, d]
    rw [BitVec.xor_zero] at this
    rw [this, reg_four, show 8 * [a, b, c, d].length = 32 from rfl, shn_xor]
  have e2 : crc m = reg ones m ^^^ ones := by unfold crc more; rw [BitVec.zero_xor]
  rw [e1, e2]
  constructor
  · intro h
    rw [h, ← BitVec.xor_assoc, BitVec.xor_self, BitVec.zero_xor]; rfl
  · intro h
    have h := congrArg (· ^^^ ones) h
    simp only [res, xx] at h
    have h2 : shn 32 (reg ones m ^^^ four a b c d ^^^ ones) = 0#32 := by rw [shn_xor, h, BitVec.xor_self]
    have h3 := shn_ne _ _ h2
    have h4 := congrArg (fun v => reg ones m ^^^ ones ^^^ v) h3
    simp only [BitVec.xor_zero] at h4
    rw [← h4]
    exact (calc four a b c d = (reg ones m ^^^ reg ones m) ^^^ (ones ^^^ ones) ^^^ four a b c d := by rw [BitVec.xor_self, BitVec.xor_self, BitVec.zero_xor, BitVec.zero_xor]
      _ = _ := by ac_rfl)

/-- a body's length and its bytes -/
def hd (l : List UInt8) : List UInt8 := num 2 l.length ++ l
/-- its frame -/
def frm (l : List UInt8) : List UInt8 := hd l ++ le4 (crc (hd l))
theorem hd_length (l : List UInt8) : (hd l).length = l.length + 2 := by simp [hd, num_length]; omega
theorem frm_length (l : List UInt8) : (frm l).length = l.length + 6 := by simp [frm, hd_length, le4_length]
/-- a body that can be -/
def okB (l : List UInt8) : Bool := decide (1 ≤ l.length ∧ l.length ≤ 2048)
theorem okB_iff (l : List UInt8) : okB l = true ↔ 1 ≤ l.length ∧ l.length ≤ 2048 := by simp [okB]
def ofT (l : List UInt8) : List UInt8 := if okB l = true then frm l else []
def ofE (l : List UInt8) : Int := if okB l = true then 0 else 1
theorem ofT_yes {l : List UInt8} (h : okB l = true) : ofT l = frm l := if_pos h
theorem ofT_no {l : List UInt8} (h : okB l = false) : ofT l = [] := if_neg (by rw [h]; decide)
theorem ofE_yes {l : List UInt8} (h : okB l = true) : ofE l = 0 := if_pos h
theorem ofE_no {l : List UInt8} (h : okB l = false) : ofE l = 1 := if_neg (by rw [h]; decide)

/-- the length that bytes tell -/
def lenOf (l : List UInt8) : Nat := dec (l.take 2)
/-- what bytes begin with: 1 whole, 2 more, 3 bad -/
def nSt (l : List UInt8) : Nat :=
  if l.length < 2 then 2 else if lenOf l < 1 ∨ 2048 < lenOf l then 3 else if l.length < lenOf l + 6 then 2
  else if (l.drop (2 + lenOf l)).take 4 = le4 (crc (l.take (2 + lenOf l))) then 1 else 3
def nBody (l : List UInt8) : List UInt8 := if nSt l = 1 then (l.drop 2).take (lenOf l) else []
def nUsed (l : List UInt8) : Nat := if nSt l = 1 then lenOf l + 6 else 0
theorem nSt_short {l : List UInt8} (h : l.length < 2) : nSt l = 2 := if_pos h
theorem nSt_len {l : List UInt8} (h : ¬ l.length < 2) (h2 : lenOf l < 1 ∨ 2048 < lenOf l) : nSt l = 3 := by unfold nSt; rw [if_neg h, if_pos h2]
theorem nSt_more {l : List UInt8} (h : ¬ l.length < 2) (h2 : ¬ (lenOf l < 1 ∨ 2048 < lenOf l)) (h3 : l.length < lenOf l + 6) : nSt l = 2 := by unfold nSt; rw [if_neg h, if_neg h2, if_pos h3]
theorem nSt_sum {l : List UInt8} (h : ¬ l.length < 2) (h2 : ¬ (lenOf l < 1 ∨ 2048 < lenOf l)) (h3 : ¬ l.length < lenOf l + 6) : nSt l = if (l.drop (2 + lenOf l)).take 4 = le4 (crc (l.take (2 + lenOf l))) then 1 else 3 := by unfold nSt; rw [if_neg h, if_neg h2, if_neg h3]
theorem nBody_no {l : List UInt8} (h : nSt l ≠ 1) : nBody l = [] := if_neg h
theorem nUsed_no {l : List UInt8} (h : nSt l ≠ 1) : nUsed l = 0 := if_neg h
theorem nBody_yes {l : List UInt8} (h : nSt l = 1) : nBody l = (l.drop 2).take (lenOf l) := if_pos h
theorem nUsed_yes {l : List UInt8} (h : nSt l = 1) : nUsed l = lenOf l + 6 := if_pos h
/-- what is whole -/
theorem whole {l : List UInt8} (h : nSt l = 1) : 2 ≤ l.length ∧ 1 ≤ lenOf l ∧ lenOf l ≤ 2048 ∧ lenOf l + 6 ≤ l.length ∧ (l.drop (2 + lenOf l)).take 4 = le4 (crc (l.take (2 + lenOf l))) := by
  unfold nSt at h
  split at h
  · omega
  split at h
  · omega
  split at h
  · omega
  split at h
  · rename_i a b c d; exact ⟨by omega, by omega, by omega, by omega, d⟩
  · omega
theorem nSt_range (l : List UInt8) : nSt l = 1 ∨ nSt l = 2 ∨ nSt l = 3 := by
  unfold nSt
  repeat' split
  all_goals simp

theorem lenOf_hd (l m : List UInt8) (h : l.length ≤ 2048) : lenOf (hd l ++ m) = l.length := by
  unfold lenOf hd
  rw [List.append_assoc, List.take_append_of_le_length (by rw [num_length]; decide), List.take_of_length_le (by rw [num_length]; decide)]
  show dec (enc 2 ((l.length : Int).toNat)) = _
  rw [Int.toNat_natCast, dec_enc _ _ (by omega)]
theorem hd_drop (l m : List UInt8) : (hd l ++ m).drop (2 + l.length) = m := by
  rw [← Nat.add_comm l.length 2, ← hd_length]; simp
theorem hd_take (l m : List UInt8) : (hd l ++ m).take (2 + l.length) = hd l := by
  rw [← Nat.add_comm l.length 2, ← hd_length]; simp
theorem hd_body (l m : List UInt8) : ((hd l ++ m).drop 2).take l.length = l := by
  unfold hd
  rw [List.append_assoc, List.drop_append_of_le_length (by rw [num_length]; decide), List.drop_of_length_le (by rw [num_length]; decide), List.nil_append, List.take_append_of_le_length (Nat.le_refl _), List.take_of_length_le (Nat.le_refl _)]

/-- a frame, whatever stands behind it, is whole -/
theorem frm_whole (l m : List UInt8) (h : okB l = true) : nSt (frm l ++ m) = 1 ∧ nBody (frm l ++ m) = l ∧ nUsed (frm l ++ m) = (frm l).length := by
  rw [okB_iff] at h
  have e : lenOf (frm l ++ m) = l.length := by unfold frm; rw [List.append_assoc]; exact lenOf_hd l _ h.2
  have hl : (frm l ++ m).length = l.length + 6 + m.length := by rw [List.length_append, frm_length]
  have s1 : nSt (frm l ++ m) = 1 := by
    rw [nSt_sum (by omega) (by omega) (by omega), e]
    rw [if_pos]
    unfold frm
    rw [List.append_assoc, hd_drop, hd_take, List.take_append_of_le_length (by rw [le4_length]; omega), List.take_of_length_le (by rw [le4_length]; omega)]
  refine ⟨s1, ?_, ?_⟩
  · rw [nBody_yes s1, e]; unfold frm; rw [List.append_assoc, hd_body]
  · rw [nUsed_yes s1, e, frm_length]
/-- no beginning of a frame is whole, nor bad -/
theorem frm_front (l : List UInt8) (k : Nat) (h : okB l = true) (hk : k < (frm l).length) : nSt ((frm l).take k) = 2 := by
  rw [okB_iff] at h
  rw [frm_length] at hk
  have hl : ((frm l).take k).length = k := by rw [List.length_take, frm_length]; omega
  by_cases h2 : k < 2
  · exact nSt_short (by omega)
  have e : lenOf ((frm l).take k) = l.length := by
    unfold lenOf
    rw [List.take_take, show min 2 k = 2 by omega]
    exact lenOf_hd l _ h.2
  exact nSt_more (by omega) (by omega) (by omega)

/-- bytes as long as the frame whose length they tell: whole, if their sum is what it must be; else bad -/
theorem whole_iff (l : List UInt8) (n : Nat) (h1 : 1 ≤ n) (h2 : n ≤ 2048) (hl : l.length = n + 6) (e : lenOf l = n) : nSt l = if crc l = res then 1 else 3 := by
  rw [nSt_sum (by omega) (by omega) (by omega), e]
  have := sum_iff (l.take (2 + n)) ((l.drop (2 + n)).take 4) (by rw [List.length_take, List.length_drop]; omega)
  rw [List.take_of_length_le (l := l.drop (2 + n)) (by rw [List.length_drop]; omega), List.take_append_drop] at this
  rw [List.take_of_length_le (l := l.drop (2 + n)) (by rw [List.length_drop]; omega)]
  by_cases hc : crc l = res
  · rw [if_pos hc, if_pos (this.2 hc)]
  · rw [if_neg hc, if_neg (fun h => hc (this.1 h))]
theorem frm_res (l : List UInt8) : crc (frm l) = res := (sum_iff (hd l) (le4 (crc (hd l))) (le4_length _)).1 rfl

/-- a frame of which four bytes behind the length, side by side, are turned -/
theorem turned (l p m : List UInt8) (a b c d x y z t : UInt8) (h : okB l = true) (hp : 2 ≤ p.length) (e : frm l = p ++ [a, b, c, d] ++ m) :
    nSt (p ++ [a ^^^ x, b ^^^ y, c ^^^ z, d ^^^ t] ++ m) = if x = 0 ∧ y = 0 ∧ z = 0 ∧ t = 0 then 1 else 3 := by
  rw [okB_iff] at h
  have hl := frm_length l
  rw [whole_iff _ l.length h.1 h.2]
  · have := crc_burst p m a b c d x y z t
    rw [← e, frm_res] at this
    by_cases hc : x = 0 ∧ y = 0 ∧ z = 0 ∧ t = 0
    · rw [if_pos hc, if_pos (this.2 hc)]
    · rw [if_neg hc, if_neg (fun h => hc (this.1 h))]
  · rw [e] at hl; simp at hl ⊢; omega
  · have e2 : lenOf (frm l ++ []) = l.length := by unfold frm; rw [List.append_assoc]; exact lenOf_hd l _ h.2
    rw [List.append_nil, e] at e2
    rw [← e2]
    unfold lenOf
    rw [List.append_assoc, List.append_assoc, List.take_append_of_le_length hp, List.take_append_of_le_length hp]

/-- unlike bodies have unlike frames, and none begins another one -/
theorem frm_inj (a b p q : List UInt8) (ha : okB a = true) (hb : okB b = true) (h : frm a ++ p = frm b ++ q) : a = b := by
  rw [← (frm_whole a p ha).2.1, h, (frm_whole b q hb).2.1]
end Go.Proofs.Ytdgafpkigajgeaa.Plain
