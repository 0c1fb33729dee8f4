/- A bucket's level and what is taken, as plain numbers: no memory, no code. -/
namespace Go.Proofs.Ytepfgheliddpmaa

/-- A level: the tokens at a tick l, and r for each tick behind it, B at most. -/
def lv (r B t l now : Int) : Int :=
  if B < (if l < now then t + r * (now - l) else t) then B else (if l < now then t + r * (now - l) else t)

theorem mul_mono {r x y : Int} (hr : 0 ≤ r) (h : x ≤ y) : r * x ≤ r * y := Int.mul_le_mul_of_nonneg_left h hr

theorem lv_le (r B t l now : Int) : lv r B t l now ≤ B := by
  unfold lv; split <;> omega

theorem lv_ge {r B t l now : Int} (hr : 0 ≤ r) : min t B ≤ lv r B t l now := by
  unfold lv
  by_cases h : l < now
  · simp only [if_pos h]
    have := mul_mono hr (show (0 : Int) ≤ now - l by omega)
    rw [Int.mul_zero] at this
    split <;> omega
  · simp only [if_neg h]
    split <;> omega

theorem lv_nonneg {r B t l now : Int} (hr : 0 ≤ r) (hB : 0 ≤ B) (ht : 0 ≤ t) : 0 ≤ lv r B t l now := by
  have := lv_ge (r := r) (B := B) (t := t) (l := l) (now := now) hr
  omega

theorem lv_mono {r B t l a b : Int} (hr : 0 ≤ r) (h : a ≤ b) : lv r B t l a ≤ lv r B t l b := by
  unfold lv
  by_cases h1 : l < a
  · have h2 : l < b := by omega
    simp only [if_pos h1, if_pos h2]
    have := mul_mono hr (show a - l ≤ b - l by omega)
    split <;> split <;> omega
  · simp only [if_neg h1]
    by_cases h2 : l < b
    · simp only [if_pos h2]
      have := mul_mono hr (show 0 ≤ b - l by omega)
      rw [Int.mul_zero] at this
      split <;> split <;> omega
    · simp only [if_neg h2]; exact Int.le_refl _

theorem lv_min {r B t l now : Int} : lv r B t l now = min B (t + r * max 0 (now - l)) := by
  unfold lv
  by_cases h : l < now
  · rw [if_pos h, show max 0 (now - l) = now - l by omega]
    split <;> omega
  · rw [if_neg h, show max 0 (now - l) = 0 by omega, Int.mul_zero]
    split <;> omega

/-- None is there: none were there, and no tick has come. -/
theorem lv_zero {r B t l now : Int} (hr : 1 ≤ r) (hB : 1 ≤ B) (ht : 0 ≤ t) : lv r B t l now = 0 ↔ t = 0 ∧ now ≤ l := by
  unfold lv
  by_cases h : l < now
  · simp only [if_pos h]
    have := mul_mono (show 0 ≤ r by omega) (show (1 : Int) ≤ now - l by omega)
    rw [Int.mul_one] at this
    constructor
    · intro h'; split at h' <;> omega
    · intro h'; omega
  · simp only [if_neg h]
    constructor
    · intro h'; split at h' <;> omega
    · rintro ⟨rfl, _⟩; split <;> omega

/-- At its own tick, or ahead of it: what it has. -/
theorem lv_own {r B t l now : Int} (h : now ≤ l) (hB : t ≤ B) : lv r B t l now = t := by
  unfold lv
  simp only [if_neg (show ¬ l < now by omega)]
  split <;> omega

/-- What is taken at a tick leaves no more behind it than what was. -/
theorem lv_taken {r B t l a m : Int} (hr : 0 ≤ r) (_hB : 0 ≤ B) (hm : 0 ≤ m) :
    lv r B (lv r B t l a - 1) (max a l) (max a l + m) ≤ lv r B t l (max a l + m) := by
  have hle := lv_le r B t l a
  by_cases hm0 : m = 0
  · subst hm0
    rw [lv_own (r := r) (B := B) (t := lv r B t l a - 1) (by omega) (by omega)]
    have := lv_mono (r := r) (B := B) (t := t) (l := l) hr (show a ≤ max a l + 0 by omega)
    omega
  · have e : max a l + m - max a l = m := by omega
    have h1 : max a l < max a l + m := by omega
    have h2 : l < max a l + m := by omega
    generalize hn : lv r B t l a = n at *
    unfold lv at hn
    unfold lv
    simp only [if_pos h1, if_pos h2, e]
    have hp : r * (max a l + m - l) = r * (max a l - l) + r * m := by
      rw [← Int.mul_add]; congr 1; omega
    rw [hp]
    by_cases h : l < a
    · simp only [if_pos h] at hn
      have em : max a l = a := by omega
      rw [em]
      split at hn <;> split <;> split <;> omega
    · simp only [if_neg h] at hn
      have em : max a l - l = 0 := by omega
      rw [em, Int.mul_zero]
      split at hn <;> split <;> split <;> omega

/-- The ticks at which there was one, in a row: at most B, and r for each tick; what is left (t, at the tick l) counts with them. -/
structure Rated (r B : Int) (at_ : List Int) (t l : Int) : Prop where
  left : ∀ i : Nat, ∀ x, at_[i]? = some x → t + (at_.length - i) ≤ B + r * (l - x)
  pair : ∀ i k : Nat, ∀ x y, i ≤ k → at_[i]? = some x → at_[k]? = some y → (k : Int) - i + 1 ≤ B + r * (y - x)
  past : ∀ i : Nat, ∀ x, at_[i]? = some x → x ≤ l

theorem Rated.nil (r B t l : Int) : Rated r B [] t l :=
  ⟨by intro i x h; simp at h, by intro i k x y _ h; simp at h, by intro i x h; simp at h⟩

/-- One more is taken. -/
theorem Rated.take {r B t l now : Int} {at_ : List Int} (h : Rated r B at_ t l) (hl : l ≤ now) (hn : 0 < lv r B t l now) (hB : t ≤ B) :
    Rated r B (at_ ++ [now]) (lv r B t l now - 1) now := by
  have hlv : lv r B t l now ≤ t + r * (now - l) := by
    unfold lv
    by_cases h1 : l < now
    · simp only [if_pos h1]; split <;> omega
    · simp only [if_neg h1]
      have : now - l = 0 := by omega
      rw [this, Int.mul_zero]
      split <;> omega
  have hle := lv_le r B t l now
  have key : ∀ i : Nat, ∀ x, (at_ ++ [now])[i]? = some x → lv r B t l now + (at_.length - i) ≤ B + r * (now - x) ∧ x ≤ now := by
    intro i x hx
    by_cases hi : i < at_.length
    · rw [List.getElem?_append_left hi] at hx
      have h1 := h.left i x hx
      have h2 := h.past i x hx
      have e : r * (now - x) = r * (l - x) + r * (now - l) := by rw [← Int.mul_add]; congr 1; omega
      rw [e]
      exact ⟨by omega, by omega⟩
    · rw [List.getElem?_append_right (by omega)] at hx
      have hi' : i = at_.length := by
        rcases Nat.lt_or_ge (i - at_.length) 1 with h0 | h0
        · omega
        · rw [List.getElem?_eq_none (by simpa using h0)] at hx; simp at hx
      subst hi'
      simp at hx
      subst hx
      have e0 : r * (now - now) = 0 := by rw [Int.sub_self, Int.mul_zero]
      rw [e0]
      exact ⟨by omega, Int.le_refl _⟩
  refine ⟨?_, ?_, fun i x hx => (key i x hx).2⟩
  · intro i x hx
    have := (key i x hx).1
    simp only [List.length_append, List.length_cons, List.length_nil]
    omega
  · intro i k x y hik hx hy
    by_cases hk : k < at_.length
    · rw [List.getElem?_append_left hk] at hy
      rw [List.getElem?_append_left (by omega)] at hx
      exact h.pair i k x y hik hx hy
    · rw [List.getElem?_append_right (by omega)] at hy
      have hk' : k = at_.length := by
        rcases Nat.lt_or_ge (k - at_.length) 1 with h0 | h0
        · omega
        · rw [List.getElem?_eq_none (by simpa using h0)] at hy; simp at hy
      subst hk'
      simp at hy
      subst hy
      have := (key i x hx).1
      omega
end Go.Proofs.Ytepfgheliddpmaa
