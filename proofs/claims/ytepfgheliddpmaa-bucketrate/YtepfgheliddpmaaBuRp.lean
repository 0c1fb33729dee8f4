/- BucketRate, plain: what holds behind so many asks. -/
import Derived.Test.YtepfgheliddpmaaBuInts
namespace Go.Proofs.Ytepfgheliddpmaa
open Go.RowKit Go.Lib
set_option linter.unusedVariables false
set_option linter.unusedSimpArgs false

/-- behind j asks: the tick, the bucket, the ticks at which there was one -/
structure PL (c : Cfg) (j : Nat) (nw : Int) (b : Bt) (l : List Int) : Prop where
  ok : okB c b.tok b.last = true
  lo : 0 ≤ nw
  hi : nw ≤ 3 * (j : Int)
  last : b.last ≤ nw
  len : l.length ≤ j
  rated : Rated (c.get 8) (c.get 7) l b.tok b.last
  pos : ∀ (i : Nat) x, l[i]? = some x → 0 ≤ x
theorem PL.start {c : Cfg} (h : okc c = true) : PL c 0 0 ⟨c.get 7, 0⟩ [] := by
  have hB := burst_in h
  exact ⟨okB_iff.2 ⟨h, by show (0 : Int) ≤ c.get 7; omega, Int.le_refl _, by rfl⟩, Int.le_refl _, by omega, Int.le_refl _, Nat.le_refl _, Rated.nil _ _ _ _, by intro i x h; simp at h⟩
theorem PL.yes {c : Cfg} {j : Nat} {nw g : Int} {b : Bt} {l : List Int} (h : PL c j nw b l) (hj : j < 200) (hg : 0 ≤ g ∧ g ≤ 3) (hx : 0 < lev c b.tok b.last (nw + g)) :
    unt c b (nw + g) = 0 ∧ tkn c b (nw + g) = ⟨lev c b.tok b.last (nw + g) - 1, nw + g⟩ ∧ okB c (lev c b.tok b.last (nw + g) - 1) (nw + g) = true ∧ PL c (j + 1) (nw + g) ⟨lev c b.tok b.last (nw + g) - 1, nw + g⟩ (l ++ [nw + g]) := by
  have hi := h.hi; have lo := h.lo; have hl := h.last
  have ht : tick (nw + g) = true := tick_iff.2 ⟨by omega, by omega⟩
  have hk := okB_iff.1 h.ok
  have e := lev_ok h.ok ht
  have hle := lv_le (c.get 8) (c.get 7) b.tok b.last (nw + g)
  have hd : okB c (lev c b.tok b.last (nw + g) - 1) (nw + g) = true := okB_iff.2 ⟨hk.1, by omega, by omega, ht⟩
  have hm : max (nw + g) b.last = nw + g := by omega
  refine ⟨?_, ?_, hd, hd, by omega, by omega, Int.le_refl _, ?_, ?_, ?_⟩
  · unfold unt; rw [h.ok, ht, if_pos hx]; rfl
  · unfold tkn; rw [if_pos hx, hm]
  · have := h.len; simp; omega
  · show Rated (c.get 8) (c.get 7) (l ++ [nw + g]) (lev c b.tok b.last (nw + g) - 1) (nw + g)
    rw [e]
    exact h.rated.take (by omega) (by rw [← e]; exact hx) hk.2.2.1
  · intro i x hx
    rcases Nat.lt_or_ge i l.length with h1 | h1
    · rw [List.getElem?_append_left h1] at hx; exact h.pos i x hx
    · rw [List.getElem?_append_right h1] at hx
      rcases Nat.lt_or_ge (i - l.length) 1 with h0 | h0
      · rw [show i - l.length = 0 by omega] at hx; simp at hx; omega
      · rw [List.getElem?_eq_none (by simpa using h0)] at hx; simp at hx
theorem PL.no {c : Cfg} {j : Nat} {nw g : Int} {b : Bt} {l : List Int} (h : PL c j nw b l) (hj : j < 200) (hg : 0 ≤ g ∧ g ≤ 3) (hx : ¬ 0 < lev c b.tok b.last (nw + g)) :
    unt c b (nw + g) = 1 ∧ tkn c b (nw + g) = b ∧ 0 < lev c b.tok b.last (nw + g + 1) ∧ PL c (j + 1) (nw + g) b l := by
  have hi := h.hi; have lo := h.lo; have hl := h.last
  have ht : tick (nw + g) = true := tick_iff.2 ⟨by omega, by omega⟩
  have ht' : tick (nw + g + 1) = true := tick_iff.2 ⟨by omega, by omega⟩
  have hk := okB_iff.1 h.ok
  have hr := rate_in hk.1
  have hB := burst_in hk.1
  have h0 := lev_in c b.tok b.last (nw + g)
  have e := lev_ok h.ok ht
  have hz := (lv_zero hr.1 hB.1 hk.2.1).1 (show lv (c.get 8) (c.get 7) b.tok b.last (nw + g) = 0 by rw [← e]; omega)
  have h1 := lev_in c b.tok b.last (nw + g + 1)
  have e1 := lev_ok h.ok ht'
  refine ⟨?_, if_neg hx, ?_, h.ok, by omega, by omega, by omega, by have := h.len; omega, h.rated, h.pos⟩
  · unfold unt; rw [h.ok, ht, if_neg hx]; simp; omega
  · rcases Int.lt_or_le 0 (lev c b.tok b.last (nw + g + 1)) with h2 | h2
    · exact h2
    · have := (lv_zero hr.1 hB.1 hk.2.1).1 (show lv (c.get 8) (c.get 7) b.tok b.last (nw + g + 1) = 0 by rw [← e1]; omega)
      omega
/-- what the last loops ask of two of the ticks -/
theorem PL.pair {c : Cfg} {j : Nat} {nw : Int} {b : Bt} {l : List Int} (h : PL c j nw b l) (hj : j ≤ 200) {i k : Nat} (hik : i ≤ k) (hk : k < l.length) :
    (k : Int) - i + 1 ≤ c.get 7 + c.get 8 * (l.getD k 0 - l.getD i 0) ∧ 0 ≤ l.getD i 0 ∧ l.getD i 0 ≤ 600 ∧ 0 ≤ l.getD k 0 ∧ l.getD k 0 ≤ 600 := by
  have e1 : l[i]? = some (l.getD i 0) := by simp [List.getD, show i < l.length by omega]
  have e2 : l[k]? = some (l.getD k 0) := by simp [List.getD, hk]
  have := h.rated.past i _ e1
  have := h.rated.past k _ e2
  have := h.last; have := h.hi
  exact ⟨h.rated.pair i k _ _ hik e1 e2, h.pos i _ e1, by omega, h.pos k _ e2, by omega⟩
theorem rate_in2 {r x : Int} (hr : 1 ≤ r ∧ r ≤ 1024) (hx : -600 ≤ x ∧ x ≤ 600) : -614400 ≤ r * x ∧ r * x ≤ 614400 := by
  have h1 := Int.mul_le_mul_of_nonneg_left hx.1 (show 0 ≤ r by omega)
  have h2 := Int.mul_le_mul_of_nonneg_left hx.2 (show 0 ≤ r by omega)
  omega
theorem wrap_u64_nonneg (z : Int) : 0 ≤ IntKind.u64.wrap z := by
  simp [IntKind.wrap, IntKind.bits, IntKind.signed]; omega
/-- 'int(uint(z) % 4)' is a number from 0 to 3 -/
theorem gap_of (z : Int) : ∃ g : Int, 0 ≤ g ∧ g ≤ 3 ∧ (IntKind.u64.wrap z).tmod 4 = g := by
  have h0 := wrap_u64_nonneg z
  have e : (IntKind.u64.wrap z).tmod 4 = (IntKind.u64.wrap z) % 4 := Int.tmod_eq_emod_of_nonneg h0
  exact ⟨_, by rw [e]; omega, by rw [e]; omega, rfl⟩
/-- the cells of a row that isn't empty -/
theorem IntsAt.cells {w : World} {B : Nat} {A : Option Addr} {zs : List Int} (h : IntsAt w B A zs) {k : Nat} (hk : k < zs.length) :
    ∃ b off, A = some ⟨b, off, none⟩ ∧ b < B ∧ ∀ i, i < zs.length → w.cell? ⟨b, off + i, none⟩ = some (.int .i64 (zs.getD i 0)) := by
  obtain ⟨b, off, rfl, hlt, _⟩ := h k hk
  refine ⟨b, off, rfl, hlt, fun i hi => ?_⟩
  obtain ⟨b', off', e, _, hc⟩ := h i hi
  injection e with e
  injection e with e1 e2
  subst e1 e2
  exact hc
end Go.Proofs.Ytepfgheliddpmaa
