/- token's contracts: what each call returns, told by plain 32-bit words. -/
import Derived.Test.YthoakjfhoehpoaaRows
import Derived.WalkKit
import Derived.WalkLawsBesides
import Derived.WalkSpells
import Derived.StillTactics
import Derived.Deep.LoopGhost
import Derived.RowKit3
import Derived.Lib.Hide
import Derived.IntWalk
import Derived.Outline
import Derived.Laws.BitsAllLaws
namespace Go.Proofs.Ythoakjfhoehpoaa
open Go.RowKit Go.Lib

def N (x : BitVec 32) : Int := (x.toNat : Int)
theorem N_lo (x : BitVec 32) : 0 ≤ N x := by unfold N; omega
theorem N_hi (x : BitVec 32) : N x < 4294967296 := by unfold N; have := x.isLt; omega
theorem ofInt_N (x : BitVec 32) : BitVec.ofInt 32 (N x) = x := by
  unfold N; rw [BitVec.ofInt_natCast]; simp
theorem N_of (n : Int) (h0 : 0 ≤ n) (h1 : n < 4294967296) : n = N (BitVec.ofInt 32 n) := by
  unfold N
  rw [BitVec.toNat_ofInt]; omega
theorem N_xor (x y : BitVec 32) : bits .xor .u32 (N x) (N y) = N (x ^^^ y) := by
  show IntKind.u32.wrap ((BitVec.ofInt 32 (N x) ^^^ BitVec.ofInt 32 (N y)).toNat : Int) = _
  rw [ofInt_N, ofInt_N, IntKind.wrap_u32']
  have := (x ^^^ y).isLt
  unfold N; omega
theorem N_xorc (x : BitVec 32) (c : Int) (h0 : 0 ≤ c) (h1 : c < 256) : bits .xor .u32 (N x) c = N (x ^^^ BitVec.ofInt 32 c) := by
  conv => lhs; rw [N_of c h0 (by omega)]
  exact N_xor _ _
def fp : BitVec 32 := 16777619#32
theorem N_mul (x : BitVec 32) : N x * 16777619 % 4294967296 = N (x * fp) := by
  unfold N fp; rw [BitVec.toNat_mul]
  show _ = ((x.toNat * 16777619 % 2 ^ 32 : Nat) : Int)
  omega
theorem N_inj {x y : BitVec 32} : N x = N y ↔ x = y := by
  unfold N
  constructor
  · intro h; apply BitVec.eq_of_toNat_eq; omega
  · rintro rfl; rfl

/-- one byte more -/
def stp (x : BitVec 32) (c : Int) : BitVec 32 := (x ^^^ BitVec.ofInt 32 c) * fp
/-- four bytes more -/
def wn (x : BitVec 32) (n : Int) : BitVec 32 := stp (stp (stp (stp x (n / 16777216 % 256)) (n / 65536 % 256)) (n / 256 % 256)) (n % 256)
def st0 : BitVec 32 := 2166136261#32
/-- the sum of two numbers and a byte -/
def sm (s : Int) (n : Int) (c : Int) : BitVec 32 := stp (wn (wn st0 s) n) c
/-- somebody's token; with 255 a pass -/
def tk (s who role : Int) : BitVec 32 := sm s (who % 4294967296) (role % 256)

theorem ret_u32 {a b : Int} (h : a = b) : Ending.returned (.int .u32 a) = .returned (.int .u32 b) := by rw [h]

theorem fp_inv (x : BitVec 32) : x * fp * 899433627#32 = x := by
  rw [BitVec.mul_assoc, show fp * 899433627#32 = 1#32 from by decide, BitVec.mul_one]
theorem fp_inj {x y : BitVec 32} (h : x * fp = y * fp) : x = y := by
  rw [← fp_inv x, ← fp_inv y, h]
theorem stp_left {x y : BitVec 32} {c : Int} (h : stp x c = stp y c) : x = y := by
  have e := fp_inj h
  have := congrArg (· ^^^ BitVec.ofInt 32 c) e
  simpa [BitVec.xor_assoc] using this
theorem stp_right {x : BitVec 32} {c d : Int} (hc : 0 ≤ c ∧ c < 256) (hd : 0 ≤ d ∧ d < 256) (h : stp x c = stp x d) : c = d := by
  have e := fp_inj h
  have e2 := congrArg (x ^^^ ·) e
  simp only [← BitVec.xor_assoc, BitVec.xor_self, BitVec.zero_xor] at e2
  rw [N_of c hc.1 (by omega), N_of d hd.1 (by omega), e2]

set_option maxHeartbeats 400000 in
theorem with_any (x : BitVec 32) (c : Int) (w : World) (h0 : 0 ≤ c) (h1 : c < 256) :
    Calls Try.prog 18 #[.int .u32 (N x), .int .u8 c] w fun e w' => e = .returned (.int .u32 (N (stp x c))) ∧ w = w' := by
  have hw : IntKind.u32.wrap c = c := by rw [IntKind.wrap_u32']; omega
  have hx := N_xorc x c h0 h1
  have hm := N_mul (x ^^^ BitVec.ofInt 32 c)
  have HM := Lib.hid hm; clear hm
  go_enter Try.func18, Try.ntmps18
  go_wp2
  go_ret
  exact ⟨ret_u32 (by rw [HM.out]; rfl), rfl⟩

set_option maxHeartbeats 400000 in
theorem number_any (x : BitVec 32) (n : Int) (w : World) (h0 : 0 ≤ n) (h1 : n < 4294967296) :
    Calls Try.prog 17 #[.int .u32 (N x), .int .u32 n] w fun e w' => e = .returned (.int .u32 (N (wn x n))) ∧ w = w' := by
  have H0 := Lib.hid h0; have H1 := Lib.hid h1; clear h0 h1
  go_enter Try.func17, Try.ntmps17
  go_wp2_with fail
  refine (with_any x (n / 16777216 % 256) _ (by omega) (by omega)).mono ?_
  rintro e w' ⟨rfl, rfl⟩
  go_wp2_with fail
  refine (with_any _ (n / 65536 % 256) _ (by omega) (by omega)).mono ?_
  rintro e w' ⟨rfl, rfl⟩
  go_wp2_with fail
  refine (with_any _ (n / 256 % 256) _ (by omega) (by omega)).mono ?_
  rintro e w' ⟨rfl, rfl⟩
  go_wp2_with fail
  refine (with_any _ (n % 256) _ (by omega) (by omega)).mono ?_
  rintro e w' ⟨rfl, rfl⟩
  go_wp2
  go_ret
  exact ⟨rfl, rfl⟩

theorem st0_N : (2166136261 : Int) = N st0 := by decide
set_option maxHeartbeats 400000 in
theorem sum_any (s n c : Int) (w : World) (h0 : 0 ≤ s) (h1 : s < 4294967296) (h2 : 0 ≤ n) (h3 : n < 4294967296) (h4 : 0 ≤ c) (h5 : c < 256) :
    Calls Try.prog 15 #[.int .u32 s, .int .u32 n, .int .u8 c] w fun e w' => e = .returned (.int .u32 (N (sm s n c))) ∧ w = w' := by
  go_enter Try.func15, Try.ntmps15
  go_wp2_with fail
  rw [st0_N]
  refine (number_any st0 s _ h0 h1).mono ?_
  rintro e w' ⟨rfl, rfl⟩
  go_wp2_with fail
  refine (number_any _ n _ h2 h3).mono ?_
  rintro e w' ⟨rfl, rfl⟩
  go_wp2_with fail
  refine (with_any _ c _ h4 h5).mono ?_
  rintro e w' ⟨rfl, rfl⟩
  go_wp2
  go_ret
  exact ⟨rfl, rfl⟩

set_option maxHeartbeats 400000 in
theorem of_any (s who role : Int) (w : World) (h0 : 0 ≤ s) (h1 : s < 4294967296) :
    Calls Try.prog 8 #[.int .u32 s, .int .i64 who, .int .i64 role] w fun e w' => e = .returned (.int .u32 (N (tk s who role))) ∧ w = w' := by
  go_enter Try.func8, Try.ntmps8
  go_wp2_with fail
  refine (sum_any s (who % 4294967296) (role % 256) _ h0 h1 (by omega) (by omega) (by omega) (by omega)).mono ?_
  rintro e w' ⟨rfl, rfl⟩
  go_wp2
  go_ret
  exact ⟨rfl, rfl⟩
set_option maxHeartbeats 400000 in
theorem pass_any (s who : Int) (w : World) (h0 : 0 ≤ s) (h1 : s < 4294967296) :
    Calls Try.prog 9 #[.int .u32 s, .int .i64 who] w fun e w' => e = .returned (.int .u32 (N (tk s who 255))) ∧ w = w' := by
  go_enter Try.func9, Try.ntmps9
  go_wp2_with fail
  refine (sum_any s (who % 4294967296) 255 _ h0 h1 (by omega) (by omega) (by omega) (by omega)).mono ?_
  rintro e w' ⟨rfl, rfl⟩
  go_wp2
  go_ret
  exact ⟨rfl, rfl⟩

/-! ### who may what -/
def isR (r : Int) : Bool := r == 1 || r == 2 || r == 3
def may (r k : Int) : Bool := (r == 1 && (k == 1 || k == 2 || k == 4)) || (r == 2 && k == 4) || (r == 3 && (k == 1 || k == 2 || k == 3 || k == 4))
def canc (r : Int) : Bool := r == 1 || r == 3
def isT (s who role t : Int) : Bool := decide (1 ≤ who) && decide (who ≤ 1073741824) && isR role && t == N (tk s who role)

theorem ret_bool {a b : Bool} (h : a = b) : Ending.returned (.bool a) = .returned (.bool b) := by rw [h]
set_option maxHeartbeats 400000 in
theorem role_any (r : Int) (w : World) :
    Calls Try.prog 16 #[.int .i64 r] w fun e w' => e = .returned (.bool (isR r)) ∧ w = w' := by
  by_cases h1 : r = 1
  · subst h1
    go_enter Try.func16, Try.ntmps16
    go_wp2
    go_ret
    exact ⟨rfl, rfl⟩
  by_cases h2 : r = 2
  · subst h2
    go_enter Try.func16, Try.ntmps16
    go_wp2
    go_ret
    exact ⟨rfl, rfl⟩
  by_cases h3 : r = 3
  · subst h3
    go_enter Try.func16, Try.ntmps16
    go_wp2
    go_ret
    exact ⟨rfl, rfl⟩
  have e1 : (r == 1) = false := by simp [h1]
  have e2 : (r == 2) = false := by simp [h2]
  have e3 : (r == 3) = false := by simp [h3]
  have er : isR r = false := by unfold isR; rw [e1, e2, e3]; rfl
  rw [er]; clear er
  go_enter Try.func16, Try.ntmps16
  go_wp2
  go_ret
  exact ⟨rfl, rfl⟩
set_option maxHeartbeats 400000 in
theorem set_any (r : Int) (w : World) :
    Calls Try.prog 13 #[.int .i64 r] w fun e w' => e = .returned (.bool (r == 3)) ∧ w = w' := by
  go_enter Try.func13, Try.ntmps13
  go_wp2
  go_ret
  exact ⟨rfl, rfl⟩
set_option maxHeartbeats 400000 in
theorem cancel_any (r : Int) (w : World) :
    Calls Try.prog 12 #[.int .i64 r] w fun e w' => e = .returned (.bool (canc r)) ∧ w = w' := by
  by_cases h1 : r = 1
  · subst h1
    go_enter Try.func12, Try.ntmps12
    go_wp2
    go_ret
    exact ⟨rfl, rfl⟩
  have e1 : (r == 1) = false := by simp [h1]
  have er : canc r = (r == 3) := by unfold canc; rw [e1]; rfl
  rw [er]; clear er
  go_enter Try.func12, Try.ntmps12
  go_wp2
  go_ret
  exact ⟨rfl, rfl⟩
set_option maxHeartbeats 400000 in
theorem feed_any (r : Int) (w : World) :
    Calls Try.prog 14 #[.int .i64 r] w fun e w' => e = .returned (.bool (canc r)) ∧ w = w' := by
  by_cases h1 : r = 1
  · subst h1
    go_enter Try.func14, Try.ntmps14
    go_wp2
    go_ret
    exact ⟨rfl, rfl⟩
  have e1 : (r == 1) = false := by simp [h1]
  have er : canc r = (r == 3) := by unfold canc; rw [e1]; rfl
  rw [er]; clear er
  go_enter Try.func14, Try.ntmps14
  go_wp2
  go_ret
  exact ⟨rfl, rfl⟩
end Go.Proofs.Ythoakjfhoehpoaa
