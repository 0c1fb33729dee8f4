/- The plain mathematics of CRC-32 as layer 1 words it, over 32-bit words and lists of bytes: no Go text, no model. -/
namespace Go.Proofs.Ytdgafpkigajgeaa.Plain

def poly : BitVec 32 := 0xEDB88320#32
/-- one product by x: shifted down by one, turned by the polynomial where a 1 fell out -/
def sh (x : BitVec 32) : BitVec 32 := if x.getLsbD 0 then (x >>> 1) ^^^ poly else x >>> 1
def shn : Nat → BitVec 32 → BitVec 32
  | 0, x => x
  | k + 1, x => sh (shn k x)
def ext (c : UInt8) : BitVec 32 := c.toBitVec.setWidth 32
def step (r : BitVec 32) (c : UInt8) : BitVec 32 := shn 8 (r ^^^ ext c)
def reg : BitVec 32 → List UInt8 → BitVec 32
  | r, [] => r
  | r, c :: l => reg (step r c) l
def ones : BitVec 32 := 0xFFFFFFFF#32
def more (s : BitVec 32) (l : List UInt8) : BitVec 32 := reg (s ^^^ ones) l ^^^ ones
def crc (l : List UInt8) : BitVec 32 := more 0#32 l

theorem sh_xor (x y : BitVec 32) : sh (x ^^^ y) = sh x ^^^ sh y := by
  unfold sh
  rw [BitVec.getLsbD_xor, BitVec.ushiftRight_xor_distrib]
  have e : ∀ p q : BitVec 32, p ^^^ poly ^^^ (q ^^^ poly) = p ^^^ q := by
    intro p q
    have : p ^^^ poly ^^^ (q ^^^ poly) = p ^^^ q ^^^ poly ^^^ poly := by ac_rfl
    rw [this, BitVec.xor_assoc, BitVec.xor_self, BitVec.xor_zero]
  cases x.getLsbD 0 <;> cases y.getLsbD 0
  · simp
  · simp [BitVec.xor_assoc]
  · simp only [Bool.true_bne, Bool.not_false, if_true, Bool.false_eq_true, if_false]; ac_rfl
  · simp [e]
theorem sh_zero : sh 0#32 = 0#32 := by decide
theorem shn_xor (k : Nat) (x y : BitVec 32) : shn k (x ^^^ y) = shn k x ^^^ shn k y := by
  induction k with
  | zero => rfl
  | succ k ih => simp only [shn, ih, sh_xor]
theorem shn_zero (k : Nat) : shn k 0#32 = 0#32 := by
  induction k with
  | zero => rfl
  | succ k ih => simp only [shn, ih, sh_zero]
theorem shn_add (j k : Nat) (x : BitVec 32) : shn (j + k) x = shn j (shn k x) := by
  induction j with
  | zero => simp [shn]
  | succ j ih => rw [show j + 1 + k = (j + k) + 1 by omega]; simp only [shn, ih]

theorem reg_append (r : BitVec 32) (l m : List UInt8) : reg r (l ++ m) = reg (reg r l) m := by
  induction l generalizing r with
  | nil => rfl
  | cons c l ih => simp only [List.cons_append, reg, ih]
theorem reg_snoc (r : BitVec 32) (l : List UInt8) (c : UInt8) : reg r (l ++ [c]) = step (reg r l) c := by
  rw [reg_append]; rfl
theorem xx (a b : BitVec 32) : a ^^^ b ^^^ b = a := by rw [BitVec.xor_assoc, BitVec.xor_self, BitVec.xor_zero]
theorem more_append (s : BitVec 32) (l m : List UInt8) : more s (l ++ m) = more (more s l) m := by
  unfold more; rw [reg_append, xx]
theorem more_nil (s : BitVec 32) : more s [] = s := by unfold more; simp only [reg, xx]
theorem crc_append (l m : List UInt8) : crc (l ++ m) = more (crc l) m := more_append _ _ _

/-- what stands ahead moves by the length behind; the rest is its own -/
theorem reg_lin (r t : BitVec 32) (l : List UInt8) : reg (r ^^^ t) l = shn (8 * l.length) r ^^^ reg t l := by
  induction l generalizing r t with
  | nil => rfl
  | cons c l ih =>
    have e : step (r ^^^ t) c = shn 8 r ^^^ step t c := by unfold step; rw [BitVec.xor_assoc, shn_xor]
    simp only [reg, e, ih, List.length_cons]
    rw [← shn_add, show 8 * l.length + 8 = 8 * (l.length + 1) by omega]
/-- the sum of both, told by their sums and the second one's length -/
theorem crc_join (l m : List UInt8) : crc (l ++ m) = shn (8 * m.length) (crc l) ^^^ crc m := by
  rw [crc_append]
  have h := reg_lin (crc l) (0#32 ^^^ ones) m
  have e : crc l ^^^ (0#32 ^^^ ones) = crc l ^^^ ones := by simp
  unfold more
  rw [← e, h, BitVec.xor_assoc]; rfl

/-! ### products -/
def mul : Nat → BitVec 32 → BitVec 32 → BitVec 32
  | 0, _, _ => 0#32
  | k + 1, a, b => (if a.getLsbD 31 then b else 0#32) ^^^ mul k (a <<< 1) (sh b)
def one : BitVec 32 := 0x80000000#32
theorem mul_zero_left (k : Nat) (b : BitVec 32) : mul k 0#32 b = 0#32 := by
  induction k generalizing b with
  | zero => rfl
  | succ k ih => simp [mul, ih]
theorem mul_sh (k : Nat) (a b : BitVec 32) : mul k a (sh b) = sh (mul k a b) := by
  induction k generalizing a b with
  | zero => simp [mul, sh_zero]
  | succ k ih => simp only [mul, ih, sh_xor]; congr 1; split <;> simp [sh_zero]
theorem mul_shn (k m : Nat) (a b : BitVec 32) : mul k a (shn m b) = shn m (mul k a b) := by
  induction m with
  | zero => rfl
  | succ m ih => simp only [shn, mul_sh, ih]
theorem sh_one (j : Nat) (h : j < 31) : sh (one >>> j) = one >>> (j + 1) := by
  have : (one >>> j).getLsbD 0 = false := by
    rw [BitVec.getLsbD_ushiftRight]; unfold one
    have : ∀ j : Fin 31, (0x80000000#32).getLsbD (j.val + 0) = false := by decide
    exact this ⟨j, h⟩
  unfold sh; rw [this, BitVec.shiftRight_add]; rfl
theorem mul_one_aux (k j : Nat) (h : j + k = 32) (a : BitVec 32) : mul k a (one >>> j) = a >>> j := by
  induction k generalizing j a with
  | zero => obtain rfl : j = 32 := by omega
            show 0#32 = _; rw [BitVec.ushiftRight_eq_zero (Nat.le_refl 32)]
  | succ k ih =>
    have top : ∀ i : Nat, i < 32 → (one >>> j).getLsbD i = decide (i + j = 31) := by
      intro i hi
      rw [BitVec.getLsbD_ushiftRight]
      unfold one
      by_cases hj : j + i < 32
      · have : ∀ m : Fin 32, (0x80000000#32).getLsbD m.val = decide (m.val = 31) := by decide
        rw [this ⟨j + i, hj⟩]; simp [Nat.add_comm]
      · rw [BitVec.getLsbD_of_ge _ _ (by omega)]; symm; simp; omega
    have rest : mul k (a <<< 1) (sh (one >>> j)) = (a <<< 1) >>> (j + 1) := by
      by_cases hj : j < 31
      · rw [sh_one j hj]; exact ih (j + 1) (by omega) _
      · obtain rfl : j = 31 := by omega
        obtain rfl : k = 0 := by omega
        show 0#32 = _; rw [BitVec.ushiftRight_eq_zero (Nat.le_refl 32)]
    simp only [mul, rest]
    apply BitVec.eq_of_getLsbD_eq
    intro i hi
    rw [BitVec.getLsbD_xor, BitVec.getLsbD_ushiftRight, BitVec.getLsbD_ushiftRight, BitVec.getLsbD_shiftLeft]
    by_cases h31 : i + j = 31
    · have e : j + i = 31 := by omega
      have e2 : ¬ (j + 1 + i < 32) := by omega
      rw [e]
      cases ha : a.getLsbD 31
      · simp [e2]
      · simp [e2, top i hi, h31]
    · have e1 : (if a.getLsbD 31 = true then one >>> j else 0#32).getLsbD i = false := by
        split
        · rw [top i hi]; simp [h31]
        · simp
      rw [e1]
      by_cases hl : j + 1 + i < 32
      · simp [hl]
      · have : a.getLsbD (j + i) = false := BitVec.getLsbD_of_ge _ _ (by omega)
        simp [hl, this]
theorem mul_one (a : BitVec 32) : mul 32 a one = a := by
  have := mul_one_aux 32 0 rfl a
  simpa using this
/-- a product by a power of x moves -/
theorem mul_pow (m : Nat) (a : BitVec 32) : mul 32 a (shn m one) = shn m a := by rw [mul_shn, mul_one]
theorem byte_one : (8388608#32) = shn 8 one := by decide

/-! ### turns -/
theorem ext_xor (a b : UInt8) : ext (a ^^^ b) = ext a ^^^ ext b := by
  unfold ext; simp
def turn3 : List UInt8 → List UInt8 → List UInt8 → List UInt8
  | a :: l, b :: m, c :: n => (a ^^^ b ^^^ c) :: turn3 l m n
  | _, _, _ => []
theorem reg_turn3 (r s t : BitVec 32) (l m n : List UInt8) (h1 : m.length = l.length) (h2 : n.length = l.length) :
    reg (r ^^^ s ^^^ t) (turn3 l m n) = reg r l ^^^ reg s m ^^^ reg t n := by
  induction l generalizing r s t m n with
  | nil =>
    obtain rfl : m = [] := List.length_eq_zero_iff.mp h1
    obtain rfl : n = [] := List.length_eq_zero_iff.mp h2
    rfl
  | cons a l ih =>
    match m, n, h1, h2 with
    | b :: m, c :: n, h1, h2 =>
      simp only [List.length_cons, Nat.add_right_cancel_iff] at h1 h2
      simp only [turn3, reg]
      rw [← ih _ _ _ m n h1 h2]
      congr 1
      simp only [step, ext_xor, shn_xor]
      ac_rfl
theorem crc_turn3 (l m n : List UInt8) (h1 : m.length = l.length) (h2 : n.length = l.length) :
    crc (turn3 l m n) = crc l ^^^ crc m ^^^ crc n := by
  unfold crc more
  have h := reg_turn3 (0#32 ^^^ ones) (0#32 ^^^ ones) (0#32 ^^^ ones) l m n h1 h2
  have e : (0#32 ^^^ ones) ^^^ (0#32 ^^^ ones) ^^^ (0#32 ^^^ ones) = (0#32 ^^^ ones) := by decide
  rw [e] at h
  rw [h]
  have e2 : ∀ x y z : BitVec 32, x ^^^ ones ^^^ (y ^^^ ones) ^^^ (z ^^^ ones) = x ^^^ y ^^^ z ^^^ ones := by
    intro x y z
    have : x ^^^ ones ^^^ (y ^^^ ones) ^^^ (z ^^^ ones) = x ^^^ y ^^^ z ^^^ ones ^^^ ones ^^^ ones := by ac_rfl
    rw [this, xx]
  rw [e2]

/-! ### what is turned within four bytes is told -/
theorem sh_ne (x : BitVec 32) (h : sh x = 0#32) : x = 0#32 := by
  unfold sh at h
  cases h0 : x.getLsbD 0
  · rw [h0] at h
    apply BitVec.eq_of_getLsbD_eq
    intro i hi
    cases i with
    | zero => simpa using h0
    | succ i =>
      have := congrArg (fun y => y.getLsbD i) h
      simpa [Nat.add_comm] using this
  · rw [h0] at h
    have := congrArg (fun y => y.getLsbD 31) h
    have hp : poly[31] = true := by decide
    simp [hp] at this
theorem shn_ne (k : Nat) (x : BitVec 32) (h : shn k x = 0#32) : x = 0#32 := by
  induction k with
  | zero => exact h
  | succ k ih => exact ih (sh_ne _ h)
theorem sh_low (k : Nat) (x : BitVec 32) (h : ∀ i, i < k → x.getLsbD i = false) : shn k x = x >>> k := by
  induction k with
  | zero => simp [shn]
  | succ k ih =>
    have e := ih (fun i hi => h i (by omega))
    have : (x >>> k).getLsbD 0 = false := by rw [BitVec.getLsbD_ushiftRight]; exact h k (by omega)
    simp only [shn, e]; unfold sh; rw [this, BitVec.shiftRight_add]; rfl
theorem ext_shl (c : UInt8) (k : Nat) (hk : k ≤ 24) : shn k (ext c <<< k) = ext c := by
  rw [sh_low k _ (by intro i hi; rw [BitVec.getLsbD_shiftLeft]; simp [hi])]
  apply BitVec.eq_of_getLsbD_eq
  intro i hi
  rw [BitVec.getLsbD_ushiftRight, BitVec.getLsbD_shiftLeft]
  unfold ext
  by_cases h8 : i < 8
  · have h1 : k + i < 32 := by omega
    simp [h1, hi]
  · have : c.toBitVec.getLsbD i = false := BitVec.getLsbD_of_ge _ _ (by omega)
    simp [this]
def four (a b c d : UInt8) : BitVec 32 := ext a ^^^ ext b <<< 8 ^^^ ext c <<< 16 ^^^ ext d <<< 24
theorem reg_four (a b c d : UInt8) : reg 0#32 [a, b, c, d] = shn 32 (four a b c d) := by
  have hb : shn 8 (ext b <<< 8) = ext b := ext_shl b 8 (by omega)
  have hc : shn 16 (ext c <<< 16) = ext c := ext_shl c 16 (by omega)
  have hd : shn 24 (ext d <<< 24) = ext d := ext_shl d 24 (by omega)
  have e2 : ∀ x : BitVec 32, shn 8 (shn 8 x) = shn 16 x := fun x => (shn_add 8 8 x).symm
  have e3 : ∀ x : BitVec 32, shn 8 (shn 16 x) = shn 24 x := fun x => (shn_add 8 16 x).symm
  have e4 : ∀ x : BitVec 32, shn 8 (shn 24 x) = shn 32 x := fun x => (shn_add 8 24 x).symm
  have f1 : ∀ x : BitVec 32, shn 32 x = shn 24 (shn 8 x) := fun x => shn_add 24 8 x
  have f2 : ∀ x : BitVec 32, shn 32 x = shn 16 (shn 16 x) := fun x => shn_add 16 16 x
  have g : shn 32 (four a b c d) = shn 32 (ext a) ^^^ shn 24 (ext b) ^^^ shn 16 (ext c) ^^^ shn 8 (ext d) := by
    unfold four
    rw [shn_xor, shn_xor, shn_xor, f1 (ext b <<< 8), hb, f2 (ext c <<< 16), hc, ← e4 (ext d <<< 24), hd]
  rw [g]
  simp only [reg, step, BitVec.zero_xor, shn_xor, e2, e3, e4]
theorem ext_bits (a : UInt8) (h : ∀ i, i < 8 → (ext a).getLsbD i = false) : a = 0 := by
  apply UInt8.toBitVec_inj.mp
  apply BitVec.eq_of_getLsbD_eq
  intro i hi
  have := h i hi
  unfold ext at this
  rw [BitVec.getLsbD_setWidth] at this
  simp [show i < 32 by omega] at this
  simpa using this
theorem ext_hi (a : UInt8) (i : Nat) (h : 8 ≤ i) : (ext a).getLsbD i = false := by
  unfold ext
  rw [BitVec.getLsbD_setWidth, BitVec.getLsbD_of_ge _ _ h, Bool.and_false]
theorem four_bit (a b c d : UInt8) (i : Nat) : (four a b c d).getLsbD i = (((ext a).getLsbD i ^^ (decide (i < 32) && !decide (i < 8) && (ext b).getLsbD (i - 8))) ^^ (decide (i < 32) && !decide (i < 16) && (ext c).getLsbD (i - 16)) ^^ (decide (i < 32) && !decide (i < 24) && (ext d).getLsbD (i - 24))) := by
  unfold four
  rw [BitVec.getLsbD_xor, BitVec.getLsbD_xor, BitVec.getLsbD_xor, BitVec.getLsbD_shiftLeft, BitVec.getLsbD_shiftLeft, BitVec.getLsbD_shiftLeft]
theorem four_zero (a b c d : UInt8) (h : four a b c d = 0#32) : a = 0 ∧ b = 0 ∧ c = 0 ∧ d = 0 := by
  have z : ∀ i, (four a b c d).getLsbD i = false := fun i => by rw [h]; simp
  refine ⟨ext_bits a fun i hi => ?_, ext_bits b fun i hi => ?_, ext_bits c fun i hi => ?_, ext_bits d fun i hi => ?_⟩
  · have := z i
    rw [four_bit] at this
    simpa [show i < 16 by omega, show i < 24 by omega, hi] using this
  · have := z (i + 8)
    rw [four_bit, ext_hi a (i + 8) (by omega)] at this
    simpa [show i + 8 < 32 by omega, show i + 8 < 16 by omega, show i + 8 < 24 by omega, show ¬ (i + 8 < 8) by omega] using this
  · have := z (i + 16)
    rw [four_bit, ext_hi a (i + 16) (by omega), ext_hi b (i + 16 - 8) (by omega)] at this
    simpa [show i + 16 < 32 by omega, show i + 16 < 24 by omega] using this
  · have := z (i + 24)
    rw [four_bit, ext_hi a (i + 24) (by omega), ext_hi b (i + 24 - 8) (by omega), ext_hi c (i + 24 - 16) (by omega)] at this
    simpa [show i + 24 < 32 by omega] using this

/-- two texts that are alike ahead and behind four bytes of which each is turned: their sums are alike only if nothing was turned -/
theorem crc_burst (l m : List UInt8) (a b c d x y z t : UInt8) :
    crc (l ++ [a ^^^ x, b ^^^ y, c ^^^ z, d ^^^ t] ++ m) = crc (l ++ [a, b, c, d] ++ m) ↔ (x = 0 ∧ y = 0 ∧ z = 0 ∧ t = 0) := by
  constructor
  · intro h
    unfold crc more at h
    have h := congrArg (· ^^^ ones) h
    simp only [xx] at h
    rw [reg_append, reg_append, reg_append, reg_append] at h
    have lin4 : ∀ r : BitVec 32, reg r [a ^^^ x, b ^^^ y, c ^^^ z, d ^^^ t] = reg 0#32 [x, y, z, t] ^^^ reg r [a, b, c, d] := by
      intro r
      simp only [reg, step, ext_xor, shn_xor, BitVec.zero_xor]
      ac_rfl
    rw [lin4, reg_lin] at h
    have h := congrArg (· ^^^ reg (reg (reg (0#32 ^^^ ones) l) [a, b, c, d]) m) h
    simp only [xx, BitVec.xor_self] at h
    have h2 := shn_ne _ _ h
    rw [reg_four] at h2
    exact four_zero x y z t (shn_ne _ _ h2)
  · rintro ⟨rfl, rfl, rfl, rfl⟩
    simp

end Go.Proofs.Ytdgafpkigajgeaa.Plain
