/- Plain mathematics of numbers as bytes, the highest first: no Go text. -/
namespace Go.Proofs.Ytedogbkkophghaa.Pk.Plain

/-- a number as w bytes, the highest first -/
def enc : Nat → Nat → List UInt8
  | 0, _ => []
  | w + 1, n => UInt8.ofNat (n / 256 ^ w) :: enc w n
/-- what bytes are as a number -/
def dec (l : List UInt8) : Nat := l.foldl (fun n b => n * 256 + b.toNat) 0
theorem enc_length (w n : Nat) : (enc w n).length = w := by
  induction w with
  | zero => rfl
  | succ w ih => simp [enc, ih]
theorem dec_snoc (l : List UInt8) (b : UInt8) : dec (l ++ [b]) = dec l * 256 + b.toNat := by simp [dec]
theorem dec_from (l : List UInt8) (a : Nat) : l.foldl (fun n b => n * 256 + b.toNat) a = a * 256 ^ l.length + dec l := by
  induction l generalizing a with
  | nil => simp [dec]
  | cons b l ih =>
    simp only [List.foldl_cons, dec, List.length_cons, Nat.zero_mul, Nat.zero_add]
    rw [ih, ih b.toNat, Nat.pow_succ, Nat.add_mul, ← Nat.add_assoc]
    congr 2
    rw [Nat.mul_assoc, Nat.mul_comm 256]
theorem dec_cons (b : UInt8) (l : List UInt8) : dec (b :: l) = b.toNat * 256 ^ l.length + dec l := by
  show (b :: l).foldl _ 0 = _
  rw [List.foldl_cons, dec_from]; simp
theorem dec_lt (l : List UInt8) : dec l < 256 ^ l.length := by
  induction l with
  | nil => simp [dec]
  | cons b l ih =>
    rw [dec_cons, List.length_cons, Nat.pow_succ, Nat.mul_comm (256 ^ l.length)]
    have hb : b.toNat < 256 := b.toNat_lt
    have h1 : b.toNat * 256 ^ l.length + 256 ^ l.length ≤ 256 * 256 ^ l.length := by
      rw [← Nat.succ_mul]; exact Nat.mul_le_mul_right _ hb
    omega
theorem dec_enc_mod (w n : Nat) : dec (enc w n) = n % 256 ^ w := by
  induction w with
  | zero => simp [enc, dec, Nat.mod_one]
  | succ w ih =>
    rw [enc, dec_cons, enc_length, ih, UInt8.toNat_ofNat']
    have h1 : n % 256 ^ (w + 1) = n % 256 ^ w + 256 ^ w * (n / 256 ^ w % 256) := by rw [Nat.pow_succ, Nat.mod_mul]
    rw [h1, Nat.mul_comm (256 ^ w)]
    have : (2 : Nat) ^ 8 = 256 := rfl
    rw [this]; omega
theorem dec_enc (w n : Nat) (h : n < 256 ^ w) : dec (enc w n) = n := by rw [dec_enc_mod, Nat.mod_eq_of_lt h]

/-- 1, 2, 4 or 8 -/
def wide (w : Int) : Bool := w == 1 || w == 2 || w == 4 || w == 8
theorem wide_iff (w : Int) : wide w = true ↔ w = 1 ∨ w = 2 ∨ w = 4 ∨ w = 8 := by
  unfold wide; simp [or_assoc]
/-- whether n can be a number of w bytes -/
def fit (w n : Int) : Bool := decide (0 ≤ n) && decide (n.toNat < 256 ^ w.toNat)
theorem fit_iff (w n : Int) : fit w n = true ↔ 0 ≤ n ∧ n.toNat < 256 ^ w.toNat := by unfold fit; simp
/-- a number's bytes -/
def num (w n : Int) : List UInt8 := enc w.toNat n.toNat
theorem num_length (w n : Int) : (num w n).length = w.toNat := enc_length _ _
end Go.Proofs.Ytedogbkkophghaa.Pk.Plain
