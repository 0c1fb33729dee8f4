/- The contracts of crc.shift, crc.More, crc.Of and of the document's own sum: each call returns what the plain mathematics says. -/
import Derived.Test.YtdgafpkigajgeaaRows
import Derived.Test.YtdgafpkigajgeaaCrcPlain
import Derived.WalkKit
import Derived.WalkLawsBesides
import Derived.WalkSpells
import Derived.StillTactics
import Derived.Deep.LoopGhost
import Derived.RowKit3
import Derived.Lib.Hide
import Derived.IntWalk
import Derived.Outline
import Derived.Laws.BitsAllLaws
namespace Go.Proofs.Ytdgafpkigajgeaa.Sum
open Go.RowKit Go.Lib Plain

def N (x : BitVec 32) : Int := (x.toNat : Int)
theorem N_lo (x : BitVec 32) : 0 ≤ N x := by unfold N; omega
theorem N_hi (x : BitVec 32) : N x < 4294967296 := by unfold N; have := x.isLt; omega
theorem ofInt_N (x : BitVec 32) : BitVec.ofInt 32 (N x) = x := by
  unfold N; rw [BitVec.ofInt_natCast]; simp
theorem N_xor (x y : BitVec 32) : bits .xor .u32 (N x) (N y) = N (x ^^^ y) := by
  show IntKind.u32.wrap ((BitVec.ofInt 32 (N x) ^^^ BitVec.ofInt 32 (N y)).toNat : Int) = _
  rw [ofInt_N, ofInt_N, IntKind.wrap_u32']
  have := (x ^^^ y).isLt
  unfold N; omega
theorem N_and1 (x : BitVec 32) : bits .and .u32 (N x) 1 = if x.getLsbD 0 then 1 else 0 := by
  show IntKind.u32.wrap ((BitVec.ofInt 32 (N x) &&& BitVec.ofInt 32 1).toNat : Int) = _
  rw [ofInt_N, show BitVec.ofInt 32 1 = 1#32 from by decide, IntKind.wrap_u32']
  have e : x &&& 1#32 = if x.getLsbD 0 then 1#32 else 0#32 := by
    apply BitVec.eq_of_getLsbD_eq
    intro i hi
    rw [BitVec.getLsbD_and]
    cases i with
    | zero => cases h : x.getLsbD 0 <;> simp
    | succ i => cases h : x.getLsbD 0 <;> simp
  rw [e]; split <;> rfl
theorem N_shr1 (x : BitVec 32) : N x / (2 : Int) = N (x >>> 1) := by
  unfold N; rw [BitVec.toNat_ushiftRight, Nat.shiftRight_eq_div_pow]; omega
theorem N_of (n : Int) (h0 : 0 ≤ n) (h1 : n < 4294967296) : n = N (BitVec.ofInt 32 n) := by
  unfold N
  rw [BitVec.toNat_ofInt]; omega

theorem ret_u32 {a b : Int} (h : a = b) : Ending.returned (.int .u32 a) = .returned (.int .u32 b) := by rw [h]
theorem N_poly : (3988292384 : Int) = N poly := by decide

set_option maxHeartbeats 400000 in
theorem shift_any (n : Int) (x : BitVec 32) (w : World) (hn : n = N x) :
    Calls Try.prog 42 #[.int .u32 n] w fun e w' => e = .returned (.int .u32 (N (sh x))) ∧ w = w' := by
  subst hn
  have h1 := N_lo x
  by_cases h0 : x.getLsbD 0 = true
  · have ha : bits BinOp.and IntKind.u32 (N x) 1 = 1 := by rw [N_and1, if_pos h0]
    have H := Lib.hid h0; clear h0
    go_enter Try.func42, Try.ntmps42
    go_wp2
    go_ret
    exact ⟨ret_u32 (by rw [N_shr1, N_poly, N_xor, sh, if_pos H.out]), rfl⟩
  · have ha : bits BinOp.and IntKind.u32 (N x) 1 = 0 := by rw [N_and1, if_neg h0]
    have H := Lib.hid h0; clear h0
    go_enter Try.func42, Try.ntmps42
    go_wp2
    go_ret
    exact ⟨ret_u32 (by rw [N_shr1, sh, if_neg H.out]), rfl⟩

theorem N_top (x : BitVec 32) : N x / 2147483648 = if x.getLsbD 31 then 1 else 0 := by
  unfold N
  have h : x.getLsbD 31 = decide (x.toNat / 2147483648 % 2 = 1) := by
    rw [← BitVec.testBit_toNat, Nat.testBit_eq_decide_div_mod_eq]
  have := x.isLt
  rw [h]
  by_cases h2 : x.toNat / 2147483648 % 2 = 1 <;> simp [h2] <;> omega
theorem N_shl1 (x : BitVec 32) : IntKind.u32.wrap (N x * 2) = N (x <<< 1) := by
  rw [IntKind.wrap_u32']; unfold N; rw [BitVec.toNat_shiftLeft, Nat.shiftLeft_eq]; omega
theorem N_zero (x : BitVec 32) : N x = 0 ↔ x = 0#32 := by
  unfold N
  constructor
  · intro h; apply BitVec.eq_of_toNat_eq; simp; omega
  · rintro rfl; rfl


theorem i64_and1 (j : Nat) (h : j < 9223372036854775808) : bits .and .i64 (j : Int) 1 = ((j % 2 : Nat) : Int) := by
  show IntKind.i64.wrap ((BitVec.ofInt 64 (j : Int) &&& BitVec.ofInt 64 1).toNat : Int) = _
  rw [BitVec.toNat_and, ofInt_u64 j (by omega), show (BitVec.ofInt 64 1).toNat = 1 from by decide, Nat.and_one_is_mod]
  exact IntWalk.i64_in _ (by omega)

theorem N_byte : (8388608 : Int) = N (shn (8 * 1) one) := by decide

theorem join_step1 (e j n0 : Nat) (a a' : BitVec 32) (h : shn (8 * e * j) a' = shn (8 * n0) a) (ho : j % 2 = 1) : shn (8 * (e + e) * (j / 2)) (shn (8 * e) a') = shn (8 * n0) a := by
  rw [← shn_add, ← h]
  congr 1
  obtain ⟨q, rfl⟩ : ∃ q, j = 2 * q + 1 := ⟨j / 2, by omega⟩
  rw [show (2 * q + 1) / 2 = q by omega, show 8 * (e + e) = 8 * e * 2 by omega, Nat.mul_assoc (8 * e), Nat.mul_add (8 * e), Nat.mul_one]
theorem join_step0 (e j n0 : Nat) (a a' : BitVec 32) (h : shn (8 * e * j) a' = shn (8 * n0) a) (ho : j % 2 = 0) : shn (8 * (e + e) * (j / 2)) a' = shn (8 * n0) a := by
  rw [← h]
  congr 1
  obtain ⟨q, rfl⟩ : ∃ q, j = 2 * q := ⟨j / 2, by omega⟩
  rw [show (2 * q) / 2 = q by omega, show 8 * (e + e) = 8 * e * 2 by omega, Nat.mul_assoc (8 * e)]
theorem pow_sq (e : Nat) : mul 32 (shn (8 * e) one) (shn (8 * e) one) = shn (8 * (e + e)) one := by
  rw [mul_pow, ← shn_add]; congr 1; omega

theorem N_ones : (4294967295 : Int) = N ones := by decide
theorem N_not (x : BitVec 32) : bits .xor .u32 IntKind.u32.max (N x) = N (x ^^^ ones) := by
  rw [show IntKind.u32.max = 4294967295 by decide, N_ones, N_xor, BitVec.xor_comm]
theorem N_ext (c : UInt8) : ((c.toNat : Nat) : Int) % 4294967296 = N (ext c) := by
  have := c.toNat_lt
  unfold N ext; simp; omega
theorem take_snoc (s : ByteArray) (k : Nat) (h : k < s.size) : s.data.toList.take (k + 1) = s.data.toList.take k ++ [s[k]] := by
  rw [List.take_succ_eq_append_getElem (by simpa using h)]; rfl
theorem take_all (s : ByteArray) (k : Nat) (h : ¬ k < s.size) : s.data.toList.take k = s.data.toList :=
  List.take_of_length_le (by simp; omega)

set_option maxHeartbeats 400000 in
theorem more_any (n : Int) (x : BitVec 32) (s : ByteArray) (w : World) (hn : n = N x) (hs : s.size ≤ maxLen) :
    Calls Try.prog 39 #[.int .u32 n, .string s] w fun e w' => e = .returned (.int .u32 (N (more x s.data.toList))) ∧ w = w' := by
  subst hn
  unfold maxLen at hs
  have hx0 := N_not x
  go_enter Try.func39, Try.ntmps39
  go_wp2
  clear hx0
  go_loopg [5, 11] s.size (fun g sr si wx => w = wx ∧ ∃ j : Nat, j ≤ s.size ∧ g = s.size - j ∧ si = .int .i64 (j : Int) ∧ sr = .int .u32 (N (reg (x ^^^ ones) (s.data.toList.take j))))
  case atStart => exact ⟨rfl, 0, Nat.zero_le _, rfl, rfl, rfl⟩
  case round =>
    obtain ⟨rfl, j, hj, hg, rfl, rfl⟩ := hrel
    have HG := Lib.hid hg; clear hg
    by_cases hlt : j < s.size
    · have hst : reg (x ^^^ ones) (s.data.toList.take (j + 1)) = Plain.step (reg (x ^^^ ones) (s.data.toList.take j)) s[j] := by rw [take_snoc s j hlt, reg_snoc]
      have HST := Lib.hid hst; clear hst
      go_wp2
      generalize reg (x ^^^ ones) (s.data.toList.take j) = r at HST
      rw [N_ext, N_xor]
      go_loopg [5, 20] 8 (fun g sr si wx => w = wx ∧ ∃ i : Nat, i ≤ 8 ∧ g = 8 - i ∧ si = .int .i64 (i : Int) ∧ sr = .int .u32 (N (shn i (r ^^^ ext s[j]))))
      case atStart => exact ⟨rfl, 0, Nat.zero_le _, rfl, rfl, rfl⟩
      case round =>
        obtain ⟨rfl, i, hi, hg, rfl, rfl⟩ := hrel
        have HG2 := Lib.hid hg; clear hg
        by_cases hlt2 : i < 8
        · go_wp2_with (go_at_call 42; refine (shift_any _ (shn i (r ^^^ ext s[j])) _ rfl).mono ?_; rintro e w' ⟨rfl, rfl⟩)
          go_roundg (8 - (i + 1))
          case measure => have := HG2.out; omega
          case rel => exact ⟨rfl, i + 1, by omega, rfl, by go_num, rfl⟩
        · go_wp2
          go_roundg (s.size - (j + 1))
          case measure => have := HG.out; omega
          case rel => exact ⟨rfl, j + 1, by omega, rfl, by go_num, by rw [HST.out, show i = 8 by omega]; rfl⟩
    · have hxe := N_not (reg (x ^^^ ones) (s.data.toList.take j))
      go_wp2
      go_ret
      exact ⟨ret_u32 (by rw [take_all s j hlt]; rfl), rfl⟩

theorem N_half (x : BitVec 32) : (N x).tdiv 2 % (4294967296 : Int) = N (x >>> 1) := by
  have h1 := N_lo x
  have h2 := N_hi x
  rw [Int.tdiv_eq_ediv_of_nonneg h1, ← N_shr1]; omega
theorem ref_step (x : BitVec 32) : (if x.getLsbD 0 then bits .xor .u32 ((N x).tdiv 2 % 4294967296) 3988292384 else (N x).tdiv 2 % 4294967296) = N (sh x) := by
  rw [N_poly, N_half, N_xor]; unfold sh; split <;> rfl
theorem crc_ones (l : List UInt8) : crc l = reg ones l ^^^ ones := by unfold crc more; rw [BitVec.zero_xor]
theorem N_mod2 (x : BitVec 32) : N x % 2 = if x.getLsbD 0 then 1 else 0 := by
  unfold N
  have h : x.getLsbD 0 = decide (x.toNat % 2 = 1) := by rw [← BitVec.testBit_toNat, Nat.testBit_zero]
  rw [h]
  by_cases h2 : x.toNat % 2 = 1 <;> simp [h2] <;> omega

set_option maxHeartbeats 400000 in
/-- the document's own sum -/
theorem ref_any (s : ByteArray) (w : World) (hs : s.size ≤ maxLen) :
    Calls Try.prog 35 #[.string s] w fun e w' => e = .returned (.int .u32 (N (crc s.data.toList))) ∧ w = w' := by
  unfold maxLen at hs
  go_enter Try.func35, Try.ntmps35
  go_wp2
  go_loopg [3, 4] s.size (fun g sr si wx => w = wx ∧ ∃ j : Nat, j ≤ s.size ∧ g = s.size - j ∧ si = .int .i64 (j : Int) ∧ sr = .int .u32 (N (reg ones (s.data.toList.take j))))
  case atStart => exact ⟨rfl, 0, Nat.zero_le _, rfl, rfl, by rw [N_ones]; rfl⟩
  case round =>
    obtain ⟨rfl, j, hj, hg, rfl, rfl⟩ := hrel
    have HG := Lib.hid hg; clear hg
    by_cases hlt : j < s.size
    · have hst : reg ones (s.data.toList.take (j + 1)) = Plain.step (reg ones (s.data.toList.take j)) s[j] := by rw [take_snoc s j hlt, reg_snoc]
      have HST := Lib.hid hst; clear hst
      go_wp2
      generalize reg ones (s.data.toList.take j) = r at HST
      rw [N_ext, N_xor]
      go_loopg [3, 5] 8 (fun g sr si wx => w = wx ∧ ∃ i : Nat, i ≤ 8 ∧ g = 8 - i ∧ si = .int .i64 (i : Int) ∧ sr = .int .u32 (N (shn i (r ^^^ ext s[j]))))
      case atStart => exact ⟨rfl, 0, Nat.zero_le _, rfl, rfl, rfl⟩
      case round =>
        obtain ⟨rfl, i, hi, hg, rfl, rfl⟩ := hrel
        have HG2 := Lib.hid hg; clear hg
        by_cases hlt2 : i < 8
        · have hr := ref_step (shn i (r ^^^ ext s[j]))
          have hp := N_lo (shn i (r ^^^ ext s[j]))
          by_cases hb : (shn i (r ^^^ ext s[j])).getLsbD 0 = true
          · have hm : N (shn i (r ^^^ ext s[j])) % 2 = 1 := by rw [N_mod2, if_pos hb]
            rw [if_pos hb] at hr
            have HR := Lib.hid hr; clear hr hb
            go_wp2
            go_roundg (8 - (i + 1))
            case measure => have := HG2.out; omega
            case rel => exact ⟨rfl, i + 1, by omega, rfl, by go_num, by rw [HR.out]; rfl⟩
          · have hm : N (shn i (r ^^^ ext s[j])) % 2 = 0 := by rw [N_mod2, if_neg hb]
            rw [if_neg hb] at hr
            have HR := Lib.hid hr; clear hr hb
            go_wp2
            go_roundg (8 - (i + 1))
            case measure => have := HG2.out; omega
            case rel => exact ⟨rfl, i + 1, by omega, rfl, by go_num, by rw [HR.out]; rfl⟩
        · go_wp2
          go_roundg (s.size - (j + 1))
          case measure => have := HG.out; omega
          case rel => exact ⟨rfl, j + 1, by omega, rfl, by go_num, by rw [HST.out, show i = 8 by omega]; rfl⟩
    · go_wp2
      go_ret
      exact ⟨ret_u32 (by rw [N_ones, N_xor, take_all s j hlt, crc_ones]), rfl⟩

def flat : List ByteArray → List UInt8
  | [] => []
  | s :: r => s.data.toList ++ flat r
theorem flat_snoc (l : List ByteArray) (s : ByteArray) : flat (l ++ [s]) = flat l ++ s.data.toList := by
  induction l with
  | nil => simp [flat]
  | cons a l ih => simp [flat, ih]
theorem ss_take (ss : List ByteArray) (j : Nat) (h : j < ss.length) : ss.take (j + 1) = ss.take j ++ [ss.getD j ByteArray.empty] := by
  rw [List.take_succ_eq_append_getElem h]; simp [h]

set_option maxHeartbeats 400000 in
theorem of_list (ss : List ByteArray) (b off cap : Nat) (w : World) (hc : ∀ i, i < ss.length → w.cell? ⟨b, off + i, none⟩ = some (.string (ss.getD i ByteArray.empty)))
    (hs : ∀ s ∈ ss, s.size ≤ maxLen) (hl : ss.length < 9223372036854775807) :
    Calls Try.prog 28 #[.slice (some ⟨b, off, none⟩) ss.length cap] w fun e w' => e = .returned (.int .u32 (N (crc (flat ss)))) ∧ w = w' := by
  have HC := Lib.hid hc; have HB := Lib.hid hs; clear hc hs
  go_enter Try.func28, Try.ntmps28
  go_wp2
  go_loopg [3, 8] ss.length (fun g sr si wx => w = wx ∧ ∃ j : Nat, j ≤ ss.length ∧ g = ss.length - j ∧ si = .int .i64 (j : Int) ∧ sr = .int .u32 (N (crc (flat (ss.take j)))))
  case atStart => exact ⟨rfl, 0, Nat.zero_le _, rfl, rfl, by rw [List.take_zero, show N (crc (flat [])) = 0 from by decide]⟩
  case round =>
    obtain ⟨rfl, j, hj, hg, rfl, rfl⟩ := hrel
    have HG := Lib.hid hg; clear hg
    by_cases hlt : j < ss.length
    · have hcell := HC.out j hlt
      have hsz : (ss.getD j ByteArray.empty).size ≤ maxLen := HB.out _ (by simp [hlt])
      have hst : crc (flat (ss.take (j + 1))) = more (crc (flat (ss.take j))) (ss.getD j ByteArray.empty).data.toList := by
        rw [ss_take ss j hlt, flat_snoc, crc_append]
      have HST := Lib.hid hst; clear hst
      generalize ss.getD j ByteArray.empty = s at hcell hsz HST
      go_wp2_with (go_at_call 39; refine (more_any _ (crc (flat (ss.take j))) s _ rfl hsz).mono ?_; rintro e w' ⟨rfl, rfl⟩)
      go_roundg (ss.length - (j + 1))
      case measure => have := HG.out; omega
      case rel => exact ⟨rfl, j + 1, by omega, rfl, by go_num, by rw [HST.out]⟩
    · go_wp2
      go_ret
      exact ⟨ret_u32 (by rw [List.take_of_length_le (by omega)]), rfl⟩

set_option maxHeartbeats 400000 in
theorem of_nil (w : World) :
    Calls Try.prog 28 #[.slice none 0 0] w fun e w' => e = .returned (.int .u32 0) ∧ w = w' := by
  go_enter Try.func28, Try.ntmps28
  go_wp2
  go_loopg [3, 8] 0 (fun g sr si wx => w = wx ∧ si = .int .i64 0 ∧ sr = .int .u32 0)
  case atStart => exact ⟨rfl, rfl, rfl⟩
  case round =>
    obtain ⟨rfl, rfl, rfl⟩ := hrel
    go_wp2
    go_ret
    exact ⟨rfl, rfl⟩

theorem of_one (s : ByteArray) (b : Nat) (w : World) (hc : w.cell? ⟨b, 0, none⟩ = some (.string s)) (hs : s.size ≤ maxLen) :
    Calls Try.prog 28 #[.slice (some ⟨b, 0, none⟩) 1 1] w fun e w' => e = .returned (.int .u32 (N (crc s.data.toList))) ∧ w = w' := by
  have := of_list [s] b 0 1 w (by intro i hi; simp at hi; subst hi; simpa using hc) (by intro t ht; simp at ht; subst ht; exact hs) (by simp)
  simpa [flat] using this

theorem of_three (s t u : ByteArray) (b : Nat) (w : World) (h0 : w.cell? ⟨b, 0, none⟩ = some (.string s)) (h1 : w.cell? ⟨b, 1, none⟩ = some (.string t)) (h2 : w.cell? ⟨b, 2, none⟩ = some (.string u))
    (hs : s.size ≤ maxLen) (ht : t.size ≤ maxLen) (hu : u.size ≤ maxLen) :
    Calls Try.prog 28 #[.slice (some ⟨b, 0, none⟩) 3 3] w fun e w' => e = .returned (.int .u32 (N (crc (s.data.toList ++ (t.data.toList ++ u.data.toList))))) ∧ w = w' := by
  have := of_list [s, t, u] b 0 3 w (by
      intro i hi; simp at hi
      obtain rfl | rfl | rfl : i = 0 ∨ i = 1 ∨ i = 2 := by omega
      · simpa using h0
      · simpa using h1
      · simpa using h2) (by intro x hx; simp at hx; rcases hx with rfl | rfl | rfl <;> assumption) (by simp)
  simpa [flat] using this

theorem N_eq (x y : BitVec 32) : (N x == N y) = decide (x = y) := by
  by_cases h : x = y
  · simp [h]
  · have : N x ≠ N y := by unfold N; intro e; apply h; apply BitVec.eq_of_toNat_eq; omega
    simp [h, this]

theorem gtrans {a b c : World} (h1 : Grown a b) (h2 : Grown b c) : Grown a c :=
  ⟨World.keptBut_trans h1.1 h2.1, fun x => (h2.2.1 x).trans (h1.2.1 x), Nat.le_trans h1.2.2 h2.2.2⟩

end Go.Proofs.Ytdgafpkigajgeaa.Sum
