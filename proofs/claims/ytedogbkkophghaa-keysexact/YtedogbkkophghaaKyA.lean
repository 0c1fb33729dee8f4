/- Keys: halves, a key, its stamp, till when it is good. -/
import Derived.Test.YtedogbkkophghaaEArm
import Derived.Test.YtedogbkkophghaaRfA
import Derived.Laws.BitsAllLaws
import Derived.Deep.QuietTactic
namespace Go.Proofs.Ytedogbkkophghaa
open Go.RowKit Go.Lib
set_option linter.unusedVariables false
set_option linter.unusedSimpArgs false

theorem quietR {P : Program} {f : FuncId} {args : Array Value} {w : World} {n : Nat} {v : Value}
    (h : Calls P f args (w.drewN n) fun e w' => e = .returned v ∧ w.drewN n = w') : Calls P f args (w.drewN n) fun e w'' => e = .returned v ∧ ∃ m, w'' = w.drewN m :=
  h.mono fun _ _ ⟨he, hm⟩ => ⟨he, n, hm.symm⟩
/-- a number of 64 bits with a sign, without -/
def isI (n : Int) : Prop := -9223372036854775808 ≤ n ∧ n ≤ 9223372036854775807
def isU (n : Int) : Prop := 0 ≤ n ∧ n ≤ 18446744073709551615
/-- whether half of a key can be that number -/
def half (n : Int) : Bool := decide (0 ≤ n) && decide (n ≤ 4294967295)
theorem half_iff {n : Int} : half n = true ↔ 0 ≤ n ∧ n ≤ 4294967295 := by simp [half]
/-- a key's stamp, what is below it -/
def stp (k : Int) : Int := k / 4294967296
def low (k : Int) : Int := k % 4294967296
theorem stp_in {k : Int} (h : isU k) : 0 ≤ stp k ∧ stp k ≤ 4294967295 := by unfold isU at h; unfold stp; omega
theorem low_in (k : Int) : 0 ≤ low k ∧ low k ≤ 4294967295 := by unfold low; omega
theorem key_ext {a b : Int} (h : stp a = stp b) (k : low a = low b) : a = b := by unfold stp at h; unfold low at k; omega
def keyK (s n : Int) : Int := if half s = true ∧ half n = true then s * 4294967296 + n else 0
theorem half_walk {n : Int} (h : isI n) : (IntKind.u64.wrap n / 2 ^ (32 : Int).toNat == 0) = half n := by
  unfold isI at h
  rw [Bool.eq_iff_iff, half_iff]
  have e : IntKind.u64.wrap n = if 0 ≤ n then n else n + 18446744073709551616 := by
    rw [IntKind.wrap_u64]
    split <;> omega
  rw [e]
  simp
  split <;> omega
set_option maxHeartbeats 400000 in
theorem half_any (n : Int) (h : isI n) (w : World) : Calls Try.prog 34 #[.int .i64 n] w fun e w' => e = .returned (.bool (half n)) ∧ w = w' := by
  have H := Lib.hid (half_walk h); clear h
  go_enter Try.func34, Try.ntmps34
  go_wp2
  go_ret
  exact ⟨ret_bool H.out, rfl⟩
set_option maxHeartbeats 400000 in
theorem stamp_any (k : Int) (h : isU k) (w : World) : Calls Try.prog 12 #[.int .u64 k] w fun e w' => e = .returned (.int .i64 (stp k)) ∧ w = w' := by
  have H := stp_in h
  unfold isU at h
  go_enter Try.func12, Try.ntmps12
  go_wp2
  go_ret
  exact ⟨rfl, rfl⟩
theorem or_half {s n : Int} (h1 : 0 ≤ s ∧ s ≤ 4294967295) (h2 : 0 ≤ n ∧ n ≤ 4294967295) : bits .or .u64 (s * 4294967296) n = s * 4294967296 + n := by
  obtain ⟨a, rfl⟩ := Int.eq_ofNat_of_zero_le h1.1
  obtain ⟨b, rfl⟩ := Int.eq_ofNat_of_zero_le h2.1
  have e : ((a : Int) * 4294967296) = ((a * 4294967296 : Nat) : Int) := by omega
  rw [e, u64_or_nat _ _ (by omega) (by omega)]
  have h := Nat.shiftLeft_add_eq_or_of_lt (b := b) (i := 32) (by omega) a
  rw [Nat.shiftLeft_eq] at h
  have : a * 4294967296 ||| b = a * 4294967296 + b := h.symm
  rw [this]
  omega
set_option maxHeartbeats 400000 in
theorem key_yes (s n : Int) (h1 : half s = true) (h2 : half n = true) (w : World) : Calls Try.prog 21 #[.int .i64 s, .int .i64 n] w fun e w' => e = .returned (.int .u64 (s * 4294967296 + n)) ∧ w = w' := by
  have b1 := half_iff.1 h1; have b2 := half_iff.1 h2
  have C1 := half_any s (by unfold isI; omega) w
  have C2 := half_any n (by unfold isI; omega) w
  rw [h1] at C1; rw [h2] at C2
  have D1 := Lib.hid C1; have D2 := Lib.hid C2
  clear C1 C2 h1 h2
  go_enter Try.func21, Try.ntmps21
  go_wp2_with (first | (go_at_call 34; (with_reducible refine D1.out.mono ?_); rintro e w' ⟨rfl, rfl⟩) | (go_at_call 34; (with_reducible refine D2.out.mono ?_); rintro e w' ⟨rfl, rfl⟩))
  go_ret
  exact ⟨by rw [or_half b1 b2]; rfl, rfl⟩
set_option maxHeartbeats 400000 in
theorem key_no1 (s n : Int) (hs : isI s) (h1 : half s = false) (w : World) : Calls Try.prog 21 #[.int .i64 s, .int .i64 n] w fun e w' => e = .returned (.int .u64 0) ∧ w = w' := by
  have C1 := half_any s hs w
  rw [h1] at C1
  have D1 := Lib.hid C1
  clear C1 h1 hs
  go_enter Try.func21, Try.ntmps21
  go_wp2_with (go_at_call 34; (with_reducible refine D1.out.mono ?_); rintro e w' ⟨rfl, rfl⟩)
  go_ret
  exact ⟨rfl, rfl⟩
set_option maxHeartbeats 400000 in
theorem key_no2 (s n : Int) (hs : isI s) (hn : isI n) (h1 : half s = true) (h2 : half n = false) (w : World) : Calls Try.prog 21 #[.int .i64 s, .int .i64 n] w fun e w' => e = .returned (.int .u64 0) ∧ w = w' := by
  have C1 := half_any s hs w
  have C2 := half_any n hn w
  rw [h1] at C1; rw [h2] at C2
  have D1 := Lib.hid C1; have D2 := Lib.hid C2
  clear C1 C2 h1 h2 hs hn
  go_enter Try.func21, Try.ntmps21
  go_wp2_with (first | (go_at_call 34; (with_reducible refine D1.out.mono ?_); rintro e w' ⟨rfl, rfl⟩) | (go_at_call 34; (with_reducible refine D2.out.mono ?_); rintro e w' ⟨rfl, rfl⟩))
  go_ret
  exact ⟨rfl, rfl⟩
theorem key_any (s n : Int) (hs : isI s) (hn : isI n) (w : World) : Calls Try.prog 21 #[.int .i64 s, .int .i64 n] w fun e w' => e = .returned (.int .u64 (keyK s n)) ∧ w = w' := by
  cases h1 : half s
  · rw [show keyK s n = 0 from if_neg (by rw [h1]; simp)]
    exact key_no1 s n hs h1 w
  · cases h2 : half n
    · rw [show keyK s n = 0 from if_neg (by rw [h2]; simp)]
      exact key_no2 s n hs hn h1 h2 w
    · rw [show keyK s n = s * 4294967296 + n from if_pos ⟨h1, h2⟩]
      exact key_yes s n h1 h2 w
/-- the last tick at which a key is good -/
def lastK (c : Cfg) (k : Int) : Int := stp k + c.get 6
set_option maxHeartbeats 800000 in
theorem last_any (c : Cfg) (k : Int) (h : isU k) (hc : okc c = true) (w : World) : Calls Try.prog 26 #[c.V, .int .u64 k] w fun e w' => e = .returned (.int .i64 (lastK c k)) ∧ Below w.heap.size w w' := by
  have hb := okc_spec.1 hc 6 (by omega)
  have hb' : 1 ≤ c.get 6 ∧ c.get 6 ≤ 65536 := hb
  have hs := stp_in h
  have HA := Lib.hid (CAt.new w c)
  have HB := Lib.hid (below_new w (.cells c.cells 24))
  have k6 := HA.out.get (k := 6) (by omega)
  have CS := Lib.hid (fun W => stamp_any k h W)
  have e1 : IntKind.i64.wrap (stp k + c.get 6) = stp k + c.get 6 := IntWalk.i64_in _ (by omega)
  have HR := Lib.hid (show lastK c k = stp k + c.get 6 from rfl)
  generalize stp k = a at *
  generalize c.get 6 = b at *
  clear h hc hb hb' hs
  go_enter Try.func26, Try.ntmps26
  go_wp2_with fail
  go_quiet ((go_at_call 12; (with_reducible exact quietR (CS.out _))))
  go_wp2_with fail
  go_ret
  exact ⟨by rw [HR.out]; rfl, below_drewN HB.out _⟩
end Go.Proofs.Ytedogbkkophghaa
