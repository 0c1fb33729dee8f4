/- The contracts of frame.isLength and frame.sumOf. -/
import Derived.Test.YtdgafpkigajgeaaInB
import Derived.Test.YtdgafpkigajgeaaSum
import Derived.Test.YtdgafpkigajgeaaFrmPlain
namespace Go.Proofs.Ytdgafpkigajgeaa
open Go.RowKit Go.Lib Plain

def lenOk (n : Int) : Bool := decide (1 ≤ n) && decide (n ≤ 2048)
set_option maxHeartbeats 400000 in
theorem isLen_any (n : Int) (w : World) : Calls Try.prog 20 #[.int .i64 n] w fun e w' => e = .returned (.bool (lenOk n)) ∧ w = w' := by
  go_enter Try.func20, Try.ntmps20
  go_wp2
  all_goals go_ret
  all_goals exact ⟨ret_bool (by unfold lenOk; simp; omega), rfl⟩
theorem isLen_yes (n : Int) (w : World) (h : lenOk n = true) : Calls Try.prog 20 #[.int .i64 n] w fun e w' => e = .returned (.bool true) ∧ w = w' := by
  have := isLen_any n w; rw [h] at this; exact this
theorem isLen_no (n : Int) (w : World) (h : lenOk n = false) : Calls Try.prog 20 #[.int .i64 n] w fun e w' => e = .returned (.bool false) ∧ w = w' := by
  have := isLen_any n w; rw [h] at this; exact this

/-- a new Out is written on: nothing below it has turned -/
theorem wrote_below {w w' : World} {B p : Nat} {v : Value} {bs : List UInt8} (h : Out w B p v bs) (hB : B ≤ w.heap.size) (hc : Chg w w' (outSet p v)) : Below B w w' := by
  refine hc.toBelow hB fun k hk hs => ?_
  rcases hs with rfl | e
  · have := h.le; omega
  · have := (h.own.lt k e).1; omega

theorem and255 (m : Nat) (_ : m < 4294967296) : bits .and .u32 (m : Int) 255 = ((m % 256 : Nat) : Int) := by
  show IntKind.u32.wrap ((BitVec.ofInt 32 (m : Int) &&& BitVec.ofInt 32 255).toNat : Int) = _
  rw [BitVec.toNat_and, show (BitVec.ofInt 32 255).toNat = 2 ^ 8 - 1 from by decide, Nat.and_two_pow_sub_one_eq_mod, BitVec.ofInt_natCast, BitVec.toNat_ofNat, IntKind.wrap_u32']
  omega

theorem num1 (m : Nat) (bs : List UInt8) : okNums 1 [((m % 256 : Nat) : Int)] = true ∧ numd 1 [((m % 256 : Nat) : Int)] bs = bs ++ [UInt8.ofNat m] := by
  have h : okNums 1 [((m % 256 : Nat) : Int)] = true := by
    unfold okNums
    have : wide 1 = true := by decide
    rw [this]
    simp only [List.all_cons, List.all_nil, Bool.and_true, Bool.true_and, fit_iff]
    have e : (256 : Nat) ^ (1 : Int).toNat = 256 := by decide
    rw [e]
    omega
  refine ⟨h, ?_⟩
  rw [numd_yes _ h]
  congr 1
  show enc 1 ((m % 256 : Nat) : Int).toNat ++ [] = _
  rw [Int.toNat_natCast, List.append_nil]
  show [UInt8.ofNat (m % 256 / 256 ^ 0)] = _
  congr 1
  apply UInt8.toNat.inj
  rw [UInt8.toNat_ofNat', UInt8.toNat_ofNat']
  omega

set_option maxRecDepth 100000 in
set_option maxHeartbeats 1600000 in
theorem sumOf_any (s : ByteArray) (w : World) (hs : s.size ≤ maxLen) :
    Calls Try.prog 23 #[.string s] w fun e w' => e = .returned (.string (textOf (le4 (crc s.data.toList)))) ∧ Below w.heap.size w w' := by
  have HS := Lib.hid hs; clear hs
  go_enter Try.func23, Try.ntmps23
  go_wp2_with (go_at_call 28; refine (Sum.of_one s w.heap.size _ (by simp [go_sem]) HS.out).mono ?_; rintro e w' ⟨rfl, rfl⟩)
  generalize hx : crc s.data.toList = x
  have HX := Lib.hid hx; clear hx
  go_loopg [3, 10] 4 (fun g sr si wx => ∃ (j : Nat) (v : Value), j ≤ 4 ∧ g = 4 - j ∧ si = .int .i64 (j : Int) ∧ sr = .int .u32 ((x.toNat / 256 ^ j : Nat) : Int) ∧ Out wx w.heap.size (w.heap.size + 1) v (le j x.toNat) ∧ Below w.heap.size w wx)
  case atStart =>
    have o := Out.new (w.alloc (.cells #[.string s] 9)) w.heap.size (by simp)
    rw [World.size_alloc] at o
    exact ⟨0, .slice none 0 0, by omega, rfl, rfl, by unfold Sum.N; simp, o, ((Below.refl _ _).alloc (Nat.le_refl _) _).alloc (by simp) _⟩
  case round =>
    obtain ⟨j, v, hj, hg, rfl, rfl, ho, hb⟩ := hrel
    have HG := Lib.hid hg; clear hg
    by_cases hlt : j < 4
    · have hm : x.toNat / 256 ^ j < 4294967296 := Nat.lt_of_le_of_lt (Nat.div_le_self _ _) x.isLt
      have hdiv : x.toNat / 256 ^ j / 256 = x.toNat / 256 ^ (j + 1) := by rw [Nat.div_div_eq_div_mul, Nat.pow_succ]
      have hle := le_succ j x.toNat
      generalize x.toNat / 256 ^ j = m at hm hdiv hle ⊢
      have e1 := and255 m hm
      have e2 : IntKind.i64.wrap ((m % 256 : Nat) : Int) = ((m % 256 : Nat) : Int) := IntWalk.i64_in _ (by omega)
      obtain ⟨n1, n2⟩ := num1 m (le j x.toNat)
      have hsz := hb.size
      have nn := ho.not_new (Nat.le_refl _)
      have hin : inI64 ((m % 256 : Nat) : Int) := ⟨by omega, by omega⟩
      have hll : (le j x.toNat).length ≤ 1000000000 := by rw [le_length]; omega
      have HM := Lib.hid hm; have HD := Lib.hid hdiv; have HL := Lib.hid hle; have N1 := Lib.hid n1; have N2 := Lib.hid n2; have HO := Lib.hid ho; have HB := Lib.hid hb; have NN := Lib.hid nn; have HI := Lib.hid hin; have HLL := Lib.hid hll
      clear hm hdiv hle n1 n2 ho hb nn hin hll
      go_wp2_with fail
      refine (num_one w.heap.size (w.heap.size + 1) wr.heap.size 1 v (le j x.toNat) 1 ((m % 256 : Nat) : Int) _ (HO.out.alloc _) (by simp; omega) (by simp [go_sem]) HI.out HLL.out NN.out).mono ?_
      rintro e w1 ⟨rfl, v1, ho1, hc1, hl1⟩
      rw [N1.out]
      rw [N2.out] at ho1
      have hb1 : Below w.heap.size w w1 := (HB.out.alloc hsz _).trans (wrote_below (HO.out.alloc _) (by simp; omega) hc1)
      have HO1 := Lib.hid ho1; have HB1 := Lib.hid hb1; clear ho1 hb1 hc1 hl1
      go_wp2_with fail
      go_roundg (4 - (j + 1))
      case measure => have := HG.out; omega
      case rel => exact ⟨j + 1, v1, by omega, rfl, by go_num, by rw [← HD.out]; go_num, by rw [HL.out]; exact HO1.out, HB1.out⟩
    · obtain rfl : j = 4 := by omega
      go_wp2_with (go_at_call 22; refine (string_some ho).mono ?_; rintro e w' ⟨rfl, rfl⟩)
      go_ret
      exact ⟨by rw [HX.out]; rfl, hb⟩
end Go.Proofs.Ytdgafpkigajgeaa
