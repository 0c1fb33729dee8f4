/- The contracts of crc.shift, crc.times, crc.More, crc.Join, crc.Of and of the document's own sum: each call returns what the plain mathematics says. -/
import Derived.Test.YtljocchdmfeecaaRows
import Derived.Test.YtljocchdmfeecaaPlain
import Derived.WalkKit
import Derived.WalkLawsBesides
import Derived.WalkSpells
import Derived.StillTactics
import Derived.Deep.LoopGhost
import Derived.RowKit3
import Derived.Lib.Hide
import Derived.IntWalk
import Derived.Outline
import Derived.Laws.BitsAllLaws
namespace Go.Proofs.Ytljocchdmfeecaa
open Go.RowKit Go.Lib Plain

def N (x : BitVec 32) : Int := (x.toNat : Int)
theorem N_lo (x : BitVec 32) : 0 ≤ N x := by unfold N; omega
theorem N_hi (x : BitVec 32) : N x < 4294967296 := by unfold N; have := x.isLt; omega
theorem ofInt_N (x : BitVec 32) : BitVec.ofInt 32 (N x) = x := by
  unfold N; rw [BitVec.ofInt_natCast]; simp
theorem N_xor (x y : BitVec 32) : bits .xor .u32 (N x) (N y) = N (x ^^^ y) := by
  show IntKind.u32.wrap ((BitVec.ofInt 32 (N x) ^^^ BitVec.ofInt 32 (N y)).toNat : Int) = _
  rw [ofInt_N, ofInt_N, IntKind.wrap_u32']
  have := (x ^^^ y).isLt
  unfold N; omega
theorem N_and1 (x : BitVec 32) : bits .and .u32 (N x) 1 = if x.getLsbD 0 then 1 else 0 := by
  show IntKind.u32.wrap ((BitVec.ofInt 32 (N x) &&& BitVec.ofInt 32 1).toNat : Int) = _
  rw [ofInt_N, show BitVec.ofInt 32 1 = 1#32 from by decide, IntKind.wrap_u32']
  have e : x &&& 1#32 = if x.getLsbD 0 then 1#32 else 0#32 := by
    apply BitVec.eq_of_getLsbD_eq
    intro i hi
    rw [BitVec.getLsbD_and]
    cases i with
    | zero => cases h : x.getLsbD 0 <;> simp
    | succ i => cases h : x.getLsbD 0 <;> simp
  rw [e]; split <;> rfl
theorem N_shr1 (x : BitVec 32) : N x / (2 : Int) = N (x >>> 1) := by
  unfold N; rw [BitVec.toNat_ushiftRight, Nat.shiftRight_eq_div_pow]; omega
theorem N_of (n : Int) (h0 : 0 ≤ n) (h1 : n < 4294967296) : n = N (BitVec.ofInt 32 n) := by
  unfold N
  rw [BitVec.toNat_ofInt]; omega

theorem ret_u32 {a b : Int} (h : a = b) : Ending.returned (.int .u32 a) = .returned (.int .u32 b) := by rw [h]
theorem N_poly : (3988292384 : Int) = N poly := by decide

set_option maxHeartbeats 400000 in
theorem shift_any (n : Int) (x : BitVec 32) (w : World) (hn : n = N x) :
    Calls Try.prog 14 #[.int .u32 n] w fun e w' => e = .returned (.int .u32 (N (sh x))) ∧ w = w' := by
  subst hn
  have h1 := N_lo x
  by_cases h0 : x.getLsbD 0 = true
  · have ha : bits BinOp.and IntKind.u32 (N x) 1 = 1 := by rw [N_and1, if_pos h0]
    have H := Lib.hid h0; clear h0
    go_enter Try.func14, Try.ntmps14
    go_wp2
    go_ret
    exact ⟨ret_u32 (by rw [N_shr1, N_poly, N_xor, sh, if_pos H.out]), rfl⟩
  · have ha : bits BinOp.and IntKind.u32 (N x) 1 = 0 := by rw [N_and1, if_neg h0]
    have H := Lib.hid h0; clear h0
    go_enter Try.func14, Try.ntmps14
    go_wp2
    go_ret
    exact ⟨ret_u32 (by rw [N_shr1, sh, if_neg H.out]), rfl⟩

theorem N_top (x : BitVec 32) : N x / 2147483648 = if x.getLsbD 31 then 1 else 0 := by
  unfold N
  have h : x.getLsbD 31 = decide (x.toNat / 2147483648 % 2 = 1) := by
    rw [← BitVec.testBit_toNat, Nat.testBit_eq_decide_div_mod_eq]
  have := x.isLt
  rw [h]
  by_cases h2 : x.toNat / 2147483648 % 2 = 1 <;> simp [h2] <;> omega
theorem N_shl1 (x : BitVec 32) : IntKind.u32.wrap (N x * 2) = N (x <<< 1) := by
  rw [IntKind.wrap_u32']; unfold N; rw [BitVec.toNat_shiftLeft, Nat.shiftLeft_eq]; omega
theorem N_zero (x : BitVec 32) : N x = 0 ↔ x = 0#32 := by
  unfold N
  constructor
  · intro h; apply BitVec.eq_of_toNat_eq; simp; omega
  · rintro rfl; rfl

set_option maxHeartbeats 400000 in
theorem times_any (n m : Int) (a b : BitVec 32) (w : World) (hn : n = N a) (hm : m = N b) :
    Calls Try.prog 15 #[.int .u32 n, .int .u32 m] w fun e w' => e = .returned (.int .u32 (N (mul 32 a b))) ∧ w = w' := by
  subst hn hm
  go_enter Try.func15, Try.ntmps15
  go_wp2
  go_loopg [0, 1, 5] 32 (fun k sa sb sp wx => w = wx ∧ ∃ a' b' p' : BitVec 32, sa = .int .u32 (N a') ∧ sb = .int .u32 (N b') ∧ sp = .int .u32 (N p') ∧ a' <<< k = 0#32 ∧ p' ^^^ mul k a' b' = mul 32 a b)
  case atStart => exact ⟨rfl, a, b, 0#32, rfl, rfl, rfl, by simp, by simp⟩
  case round =>
    obtain ⟨rfl, a', b', p', rfl, rfl, rfl, hs, hm⟩ := hrel
    have HS := Lib.hid hs; have HM := Lib.hid hm; clear hs hm
    have g1 := N_lo a'
    by_cases h0 : a' = 0#32
    · have ht : (N a' != 0) = false := by simp [N_zero, h0]
      have H0 := Lib.hid h0; clear h0
      go_wp2
      go_ret
      exact ⟨ret_u32 (by have := HM.out; rw [H0.out, mul_zero_left, BitVec.xor_zero] at this; rw [this]), rfl⟩
    · have ht : (N a' != 0) = true := by simp [N_zero, h0]
      clear h0
      have hw := N_shl1 a'
      have hk : gk ≠ 0 := by
        intro e
        have := HS.out
        rw [e] at this
        simp at this
        rw [this] at ht
        revert ht; decide
      obtain ⟨k, hk⟩ := Nat.exists_eq_succ_of_ne_zero hk
      have HK := Lib.hid hk; clear hk
      have hs' : (a' <<< 1) <<< k = 0#32 := by have := HS.out; rw [HK.out] at this; rw [← BitVec.shiftLeft_add, Nat.add_comm]; exact this
      have HS' := Lib.hid hs'; clear hs'
      by_cases h31 : a'.getLsbD 31 = true
      · have hd : N a' / 2147483648 = 1 := by rw [N_top, if_pos h31]
        have hm' : (p' ^^^ b') ^^^ mul k (a' <<< 1) (sh b') = mul 32 a b := by
          have := HM.out; rw [HK.out] at this; simp only [mul, if_pos h31] at this; rw [BitVec.xor_assoc]; exact this
        have HM' := Lib.hid hm'; clear hm'
        have hx := N_xor p' b'
        have H31 := Lib.hid h31; clear h31
        go_wp2_with (go_at_call 14; refine (shift_any _ b' _ rfl).mono ?_; rintro e w' ⟨rfl, rfl⟩)
        go_roundg k
        case measure => have := HK.out; omega
        case rel => exact ⟨rfl, a' <<< 1, sh b', p' ^^^ b', rfl, rfl, rfl, HS'.out, HM'.out⟩
      · have hd : N a' / 2147483648 = 0 := by rw [N_top, if_neg h31]
        have hm' : p' ^^^ mul k (a' <<< 1) (sh b') = mul 32 a b := by
          have := HM.out; rw [HK.out] at this; simp only [mul, if_neg h31, BitVec.zero_xor] at this; exact this
        have HM' := Lib.hid hm'; clear hm'
        have H31 := Lib.hid h31; clear h31
        go_wp2_with (go_at_call 14; refine (shift_any _ b' _ rfl).mono ?_; rintro e w' ⟨rfl, rfl⟩)
        go_roundg k
        case measure => have := HK.out; omega
        case rel => exact ⟨rfl, a' <<< 1, sh b', p', rfl, rfl, rfl, HS'.out, HM'.out⟩
end Go.Proofs.Ytljocchdmfeecaa
