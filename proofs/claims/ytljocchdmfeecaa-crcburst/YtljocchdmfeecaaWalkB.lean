/- The contracts of crc.Join, crc.More and of the document's own sum: each call returns what the plain mathematics says. -/
import Derived.Test.YtljocchdmfeecaaWalkA
namespace Go.Proofs.Ytljocchdmfeecaa
open Go.RowKit Go.Lib Plain

theorem i64_and1 (j : Nat) (h : j < 9223372036854775808) : bits .and .i64 (j : Int) 1 = ((j % 2 : Nat) : Int) := by
  show IntKind.i64.wrap ((BitVec.ofInt 64 (j : Int) &&& BitVec.ofInt 64 1).toNat : Int) = _
  rw [BitVec.toNat_and, ofInt_u64 j (by omega), show (BitVec.ofInt 64 1).toNat = 1 from by decide, Nat.and_one_is_mod]
  exact IntWalk.i64_in _ (by omega)

theorem N_byte : (8388608 : Int) = N (shn (8 * 1) one) := by decide

set_option maxHeartbeats 400000 in
theorem join_none (n m k : Int) (a b : BitVec 32) (w : World) (hn : n = N a) (hm : m = N b) (hk : k < 1) :
    Calls Try.prog 13 #[.int .u32 n, .int .u32 m, .int .i64 k] w fun e w' => e = .returned (.int .u32 (N a)) ∧ w = w' := by
  subst hn hm
  go_enter Try.func13, Try.ntmps13
  go_wp2
  go_ret
  exact ⟨rfl, rfl⟩

theorem join_step1 (e j n0 : Nat) (a a' : BitVec 32) (h : shn (8 * e * j) a' = shn (8 * n0) a) (ho : j % 2 = 1) : shn (8 * (e + e) * (j / 2)) (shn (8 * e) a') = shn (8 * n0) a := by
  rw [← shn_add, ← h]
  congr 1
  obtain ⟨q, rfl⟩ : ∃ q, j = 2 * q + 1 := ⟨j / 2, by omega⟩
  rw [show (2 * q + 1) / 2 = q by omega, show 8 * (e + e) = 8 * e * 2 by omega, Nat.mul_assoc (8 * e), Nat.mul_add (8 * e), Nat.mul_one]
theorem join_step0 (e j n0 : Nat) (a a' : BitVec 32) (h : shn (8 * e * j) a' = shn (8 * n0) a) (ho : j % 2 = 0) : shn (8 * (e + e) * (j / 2)) a' = shn (8 * n0) a := by
  rw [← h]
  congr 1
  obtain ⟨q, rfl⟩ : ∃ q, j = 2 * q := ⟨j / 2, by omega⟩
  rw [show (2 * q) / 2 = q by omega, show 8 * (e + e) = 8 * e * 2 by omega, Nat.mul_assoc (8 * e)]
theorem pow_sq (e : Nat) : mul 32 (shn (8 * e) one) (shn (8 * e) one) = shn (8 * (e + e)) one := by
  rw [mul_pow, ← shn_add]; congr 1; omega

set_option maxHeartbeats 400000 in
theorem join_some (n m : Int) (k : Nat) (a b : BitVec 32) (w : World) (hn : n = N a) (hm : m = N b) (hk : 1 ≤ k) (hk2 : k < 9223372036854775808) :
    Calls Try.prog 13 #[.int .u32 n, .int .u32 m, .int .i64 (k : Int)] w fun e w' => e = .returned (.int .u32 (N (shn (8 * k) a ^^^ b))) ∧ w = w' := by
  subst hn hm
  go_enter Try.func13, Try.ntmps13
  go_wp2
  go_loopg [0, 2, 7] k (fun g sa sn sm wx => w = wx ∧ ∃ (a' : BitVec 32) (e : Nat), g ≤ k ∧ sa = .int .u32 (N a') ∧ sn = .int .i64 (g : Int) ∧ sm = .int .u32 (N (shn (8 * e) one)) ∧ shn (8 * e * g) a' = shn (8 * k) a)
  case atStart => exact ⟨rfl, a, 1, Nat.le_refl _, rfl, rfl, by rw [← N_byte], by rw [Nat.mul_one]⟩
  case round =>
    obtain ⟨rfl, a', e, hg, rfl, rfl, rfl, hs⟩ := hrel
    have HS := Lib.hid hs; clear hs
    by_cases h0 : 0 < gk
    · have hb := i64_and1 gk (by omega)
      by_cases ho : gk % 2 = 1
      · have hb1 : bits .and .i64 (gk : Int) 1 = 1 := by rw [hb, ho]; rfl
        have HO := Lib.hid ho; clear ho hb hk2
        go_wp2_with fail
        refine (times_any _ _ a' (shn (8 * e) one) _ rfl rfl).mono ?_
        rintro e1 w1 ⟨rfl, rfl⟩
        go_wp2_with fail
        refine (times_any _ _ (shn (8 * e) one) (shn (8 * e) one) _ rfl rfl).mono ?_
        rintro e1 w1 ⟨rfl, rfl⟩
        go_wp2
        go_roundg (gk / 2)
        case measure => omega
        case rel => exact ⟨rfl, shn (8 * e) a', e + e, by omega, by rw [mul_pow], by go_num, by rw [pow_sq], join_step1 e gk k a a' HS.out HO.out⟩
      · have ho : gk % 2 = 0 := by omega
        have hb1 : bits .and .i64 (gk : Int) 1 = 0 := by rw [hb, ho]; rfl
        have HO := Lib.hid ho; clear ho hb hk2
        go_wp2_with fail
        refine (times_any _ _ (shn (8 * e) one) (shn (8 * e) one) _ rfl rfl).mono ?_
        rintro e1 w1 ⟨rfl, rfl⟩
        go_wp2
        go_roundg (gk / 2)
        case measure => omega
        case rel => exact ⟨rfl, a', e + e, by omega, rfl, by go_num, by rw [pow_sq], join_step0 e gk k a a' HS.out HO.out⟩
    · have hx := N_xor a' b
      clear hk2
      go_wp2
      go_ret
      exact ⟨ret_u32 (by have := HS.out; rw [show gk = 0 by omega, Nat.mul_zero] at this; rw [← this]; rfl), rfl⟩

theorem N_ones : (4294967295 : Int) = N ones := by decide
theorem N_not (x : BitVec 32) : bits .xor .u32 IntKind.u32.max (N x) = N (x ^^^ ones) := by
  rw [show IntKind.u32.max = 4294967295 by decide, N_ones, N_xor, BitVec.xor_comm]
theorem N_ext (c : UInt8) : ((c.toNat : Nat) : Int) % 4294967296 = N (ext c) := by
  have := c.toNat_lt
  unfold N ext; simp; omega
theorem take_snoc (s : ByteArray) (k : Nat) (h : k < s.size) : s.data.toList.take (k + 1) = s.data.toList.take k ++ [s[k]] := by
  rw [List.take_succ_eq_append_getElem (by simpa using h)]; rfl
theorem take_all (s : ByteArray) (k : Nat) (h : ¬ k < s.size) : s.data.toList.take k = s.data.toList :=
  List.take_of_length_le (by simp; omega)

set_option maxHeartbeats 400000 in
theorem more_any (n : Int) (x : BitVec 32) (s : ByteArray) (w : World) (hn : n = N x) (hs : s.size ≤ maxLen) :
    Calls Try.prog 11 #[.int .u32 n, .string s] w fun e w' => e = .returned (.int .u32 (N (more x s.data.toList))) ∧ w = w' := by
  subst hn
  unfold maxLen at hs
  have hx0 := N_not x
  go_enter Try.func11, Try.ntmps11
  go_wp2
  clear hx0
  go_loopg [5, 11] s.size (fun g sr si wx => w = wx ∧ ∃ j : Nat, j ≤ s.size ∧ g = s.size - j ∧ si = .int .i64 (j : Int) ∧ sr = .int .u32 (N (reg (x ^^^ ones) (s.data.toList.take j))))
  case atStart => exact ⟨rfl, 0, Nat.zero_le _, rfl, rfl, rfl⟩
  case round =>
    obtain ⟨rfl, j, hj, hg, rfl, rfl⟩ := hrel
    have HG := Lib.hid hg; clear hg
    by_cases hlt : j < s.size
    · have hst : reg (x ^^^ ones) (s.data.toList.take (j + 1)) = Plain.step (reg (x ^^^ ones) (s.data.toList.take j)) s[j] := by rw [take_snoc s j hlt, reg_snoc]
      have HST := Lib.hid hst; clear hst
      go_wp2
      generalize reg (x ^^^ ones) (s.data.toList.take j) = r at HST
      rw [N_ext, N_xor]
      go_loopg [5, 20] 8 (fun g sr si wx => w = wx ∧ ∃ i : Nat, i ≤ 8 ∧ g = 8 - i ∧ si = .int .i64 (i : Int) ∧ sr = .int .u32 (N (shn i (r ^^^ ext s[j]))))
      case atStart => exact ⟨rfl, 0, Nat.zero_le _, rfl, rfl, rfl⟩
      case round =>
        obtain ⟨rfl, i, hi, hg, rfl, rfl⟩ := hrel
        have HG2 := Lib.hid hg; clear hg
        by_cases hlt2 : i < 8
        · go_wp2_with (go_at_call 14; refine (shift_any _ (shn i (r ^^^ ext s[j])) _ rfl).mono ?_; rintro e w' ⟨rfl, rfl⟩)
          go_roundg (8 - (i + 1))
          case measure => have := HG2.out; omega
          case rel => exact ⟨rfl, i + 1, by omega, rfl, by go_num, rfl⟩
        · go_wp2
          go_roundg (s.size - (j + 1))
          case measure => have := HG.out; omega
          case rel => exact ⟨rfl, j + 1, by omega, rfl, by go_num, by rw [HST.out, show i = 8 by omega]; rfl⟩
    · have hxe := N_not (reg (x ^^^ ones) (s.data.toList.take j))
      go_wp2
      go_ret
      exact ⟨ret_u32 (by rw [take_all s j hlt]; rfl), rfl⟩

theorem N_half (x : BitVec 32) : (N x).tdiv 2 % (4294967296 : Int) = N (x >>> 1) := by
  have h1 := N_lo x
  have h2 := N_hi x
  rw [Int.tdiv_eq_ediv_of_nonneg h1, ← N_shr1]; omega
theorem ref_step (x : BitVec 32) : (if x.getLsbD 0 then bits .xor .u32 ((N x).tdiv 2 % 4294967296) 3988292384 else (N x).tdiv 2 % 4294967296) = N (sh x) := by
  rw [N_poly, N_half, N_xor]; unfold sh; split <;> rfl
theorem crc_ones (l : List UInt8) : crc l = reg ones l ^^^ ones := by unfold crc more; rw [BitVec.zero_xor]
theorem N_mod2 (x : BitVec 32) : N x % 2 = if x.getLsbD 0 then 1 else 0 := by
  unfold N
  have h : x.getLsbD 0 = decide (x.toNat % 2 = 1) := by rw [← BitVec.testBit_toNat, Nat.testBit_zero]
  rw [h]
  by_cases h2 : x.toNat % 2 = 1 <;> simp [h2] <;> omega

set_option maxHeartbeats 400000 in
/-- the document's own sum -/
theorem ref_any (s : ByteArray) (w : World) (hs : s.size ≤ maxLen) :
    Calls Try.prog 10 #[.string s] w fun e w' => e = .returned (.int .u32 (N (crc s.data.toList))) ∧ w = w' := by
  unfold maxLen at hs
  go_enter Try.func10, Try.ntmps10
  go_wp2
  go_loopg [3, 4] s.size (fun g sr si wx => w = wx ∧ ∃ j : Nat, j ≤ s.size ∧ g = s.size - j ∧ si = .int .i64 (j : Int) ∧ sr = .int .u32 (N (reg ones (s.data.toList.take j))))
  case atStart => exact ⟨rfl, 0, Nat.zero_le _, rfl, rfl, by rw [N_ones]; rfl⟩
  case round =>
    obtain ⟨rfl, j, hj, hg, rfl, rfl⟩ := hrel
    have HG := Lib.hid hg; clear hg
    by_cases hlt : j < s.size
    · have hst : reg ones (s.data.toList.take (j + 1)) = Plain.step (reg ones (s.data.toList.take j)) s[j] := by rw [take_snoc s j hlt, reg_snoc]
      have HST := Lib.hid hst; clear hst
      go_wp2
      generalize reg ones (s.data.toList.take j) = r at HST
      rw [N_ext, N_xor]
      go_loopg [3, 5] 8 (fun g sr si wx => w = wx ∧ ∃ i : Nat, i ≤ 8 ∧ g = 8 - i ∧ si = .int .i64 (i : Int) ∧ sr = .int .u32 (N (shn i (r ^^^ ext s[j]))))
      case atStart => exact ⟨rfl, 0, Nat.zero_le _, rfl, rfl, rfl⟩
      case round =>
        obtain ⟨rfl, i, hi, hg, rfl, rfl⟩ := hrel
        have HG2 := Lib.hid hg; clear hg
        by_cases hlt2 : i < 8
        · have hr := ref_step (shn i (r ^^^ ext s[j]))
          have hp := N_lo (shn i (r ^^^ ext s[j]))
          by_cases hb : (shn i (r ^^^ ext s[j])).getLsbD 0 = true
          · have hm : N (shn i (r ^^^ ext s[j])) % 2 = 1 := by rw [N_mod2, if_pos hb]
            rw [if_pos hb] at hr
            have HR := Lib.hid hr; clear hr hb
            go_wp2
            go_roundg (8 - (i + 1))
            case measure => have := HG2.out; omega
            case rel => exact ⟨rfl, i + 1, by omega, rfl, by go_num, by rw [HR.out]; rfl⟩
          · have hm : N (shn i (r ^^^ ext s[j])) % 2 = 0 := by rw [N_mod2, if_neg hb]
            rw [if_neg hb] at hr
            have HR := Lib.hid hr; clear hr hb
            go_wp2
            go_roundg (8 - (i + 1))
            case measure => have := HG2.out; omega
            case rel => exact ⟨rfl, i + 1, by omega, rfl, by go_num, by rw [HR.out]; rfl⟩
        · go_wp2
          go_roundg (s.size - (j + 1))
          case measure => have := HG.out; omega
          case rel => exact ⟨rfl, j + 1, by omega, rfl, by go_num, by rw [HST.out, show i = 8 by omega]; rfl⟩
    · go_wp2
      go_ret
      exact ⟨ret_u32 (by rw [N_ones, N_xor, take_all s j hlt, crc_ones]), rfl⟩
end Go.Proofs.Ytljocchdmfeecaa
