/- The plain mathematics of rings: what stands there, from a place on, round. No Go text. -/
namespace Go.Proofs.Ytenajaiedoigpaa.Plain

section
variable {α : Type}
/-- what stands at n places from place f on, round L places -/
def rd (pl : Nat → α) (f L n : Nat) : List α := (List.range n).map fun k => pl ((f + k) % L)
/-- another thing at one place -/
def upd (pl : Nat → α) (i : Nat) (x : α) : Nat → α := fun k => if k = i then x else pl k
theorem upd_at (pl : Nat → α) (i : Nat) (x : α) : upd pl i x i = x := if_pos rfl
theorem upd_far (pl : Nat → α) {i k : Nat} (x : α) (h : k ≠ i) : upd pl i x k = pl k := if_neg h
theorem rd_length (pl : Nat → α) (f L n : Nat) : (rd pl f L n).length = n := by simp [rd]
theorem rd_get (pl : Nat → α) (f L n k : Nat) (h : k < n) : (rd pl f L n)[k]? = some (pl ((f + k) % L)) := by simp [rd, h]
theorem rd_congr {pl pl' : Nat → α} {f f' L L' n : Nat} (h : ∀ k, k < n → pl ((f + k) % L) = pl' ((f' + k) % L')) : rd pl f L n = rd pl' f' L' n := by
  unfold rd
  apply List.map_congr_left
  intro k hk
  exact h k (by simpa using hk)
theorem rd_succ (pl : Nat → α) (f L n : Nat) : rd pl f L (n + 1) = rd pl f L n ++ [pl ((f + n) % L)] := by simp [rd, List.range_succ]
theorem round_ne {f L a b : Nat} (hL : b < L) (hab : a < b) : (f + a) % L ≠ (f + b) % L := by
  intro e
  have h1 : (f + a) % L = (f % L + a) % L := by rw [Nat.mod_add_mod]
  have h2 : (f + b) % L = (f % L + b) % L := by rw [Nat.mod_add_mod]
  rw [h1, h2] at e
  have h3 : f % L < L := Nat.mod_lt _ (by omega)
  generalize f % L = r at e h3
  rcases Nat.lt_or_ge (r + a) L with ha | ha
  · rcases Nat.lt_or_ge (r + b) L with hb | hb
    · rw [Nat.mod_eq_of_lt ha, Nat.mod_eq_of_lt hb] at e; omega
    · rw [Nat.mod_eq_of_lt ha, Nat.mod_eq_sub_mod hb, Nat.mod_eq_of_lt (by omega)] at e; omega
  · rw [Nat.mod_eq_sub_mod ha, Nat.mod_eq_of_lt (by omega), Nat.mod_eq_sub_mod (by omega : r + b ≥ L), Nat.mod_eq_of_lt (by omega)] at e
    omega
theorem rd_push (pl : Nat → α) (f L n : Nat) (x : α) (h : n < L) : rd (upd pl ((f + n) % L) x) f L (n + 1) = rd pl f L n ++ [x] := by
  rw [rd_succ, upd_at]
  congr 1
  exact rd_congr fun k hk => upd_far _ _ (round_ne h hk)
theorem rd_cons (pl : Nat → α) (f L n : Nat) : rd pl f L (n + 1) = pl (f % L) :: rd pl ((f + 1) % L) L n := by
  unfold rd
  rw [List.range_succ_eq_map, List.map_cons, List.map_map]
  congr 1
  apply List.map_congr_left
  intro k _
  show pl ((f + (k + 1)) % L) = pl (((f + 1) % L + k) % L)
  rw [Nat.mod_add_mod]
  congr 2
  omega
theorem rd_pop (pl : Nat → α) (f L n : Nat) (x : α) (h : n < L) : rd (upd pl (f % L) x) ((f + 1) % L) L n = rd pl ((f + 1) % L) L n := by
  refine rd_congr fun k hk => upd_far _ _ ?_
  rw [Nat.mod_add_mod]
  have := round_ne (f := f) (L := L) (a := 0) (b := k + 1) (by omega) (by omega)
  intro e
  apply this
  rw [Nat.add_zero, ← e]
  congr 1
  omega
/-- all in order, and z behind them -/
def straight (pl : Nat → α) (f L n : Nat) (z : α) : Nat → α := fun i => if i < n then pl ((f + i) % L) else z
theorem rd_straight (pl : Nat → α) (f L n P : Nat) (z : α) (h : n ≤ P) : rd (straight pl f L n z) 0 P n = rd pl f L n := by
  refine rd_congr fun k hk => ?_
  rw [Nat.zero_add, Nat.mod_eq_of_lt (by omega)]
  exact if_pos hk
/-- those whose number is there, by their numbers -/
def Asc (its : List (α × Nat)) (m : Nat) : Prop := its.Pairwise (fun a b => a.2 < b.2) ∧ ∀ x ∈ its, x.2 < m
theorem Asc.snoc {its : List (α × Nat)} {m : Nat} (h : Asc its m) (x : α) : Asc (its ++ [(x, m)]) (m + 1) := by
  refine ⟨List.pairwise_append.2 ⟨h.1, List.pairwise_singleton _ _, fun a ha b hb => ?_⟩, fun y hy => ?_⟩
  · rw [List.mem_singleton] at hb; subst hb; exact h.2 a ha
  · rcases List.mem_append.1 hy with hy | hy
    · have := h.2 y hy; omega
    · rw [List.mem_singleton] at hy; subst hy; show m < m + 1; omega
theorem Asc.tail {its : List (α × Nat)} {x : α × Nat} {m : Nat} (h : Asc (x :: its) m) : Asc its m := ⟨(List.pairwise_cons.1 h.1).2, fun y hy => h.2 y (List.mem_cons_of_mem _ hy)⟩
theorem Asc.filter {its : List (α × Nat)} {m : Nat} (h : Asc its m) (q : α × Nat → Bool) : Asc (its.filter q) m := ⟨h.1.filter q, fun y hy => h.2 y (List.mem_filter.1 hy).1⟩
theorem Asc.nil (m : Nat) : Asc ([] : List (α × Nat)) m := ⟨List.Pairwise.nil, fun _ h => absurd h (by simp)⟩
/-- the numbers of those of which q holds -/
def nums (its : List (α × Nat)) (q : α → Bool) : List Nat := (its.filter fun x => q x.1).map (·.2)
theorem mem_nums {its : List (α × Nat)} {m : Nat} (h : Asc its m) (q : α → Bool) {x : α × Nat} (hx : x ∈ its) : x.2 ∈ nums its q ↔ q x.1 = true := by
  have inj : ∀ y ∈ its, y.2 = x.2 → y = x := by
    have hp := h.1
    clear h
    induction its with
    | nil => exact absurd hx (by simp)
    | cons a l ih =>
      obtain ⟨h1, h2⟩ := List.pairwise_cons.1 hp
      intro y hy e
      rcases List.mem_cons.1 hy with hy1 | hy1
      · rcases List.mem_cons.1 hx with hx1 | hx1
        · rw [hy1, hx1]
        · have := h1 x hx1; rw [hy1] at e; omega
      · rcases List.mem_cons.1 hx with hx1 | hx1
        · have := h1 y hy1; rw [hx1] at e; omega
        · exact ih hx1 h2 y hy1 e
  unfold nums
  rw [List.mem_map]
  constructor
  · rintro ⟨y, hy, e⟩
    obtain ⟨h1, h2⟩ := List.mem_filter.1 hy
    rw [inj y h1 e] at h2
    exact h2
  · intro hq
    exact ⟨x, List.mem_filter.2 ⟨hx, hq⟩, rfl⟩
theorem nums_sorted {its : List (α × Nat)} {m : Nat} (h : Asc its m) (q : α → Bool) : (nums its q).Pairwise (· < ·) := by
  unfold nums
  rw [List.pairwise_map]
  exact h.1.filter _
theorem nums_snoc (its : List (α × Nat)) (x : α × Nat) (q : α → Bool) : nums (its ++ [x]) q = if q x.1 = true then nums its q ++ [x.2] else nums its q := by
  unfold nums
  rw [List.filter_append, List.map_append]
  by_cases h : q x.1 = true <;> simp [h]
theorem nums_length (its : List (α × Nat)) (q : α → Bool) : (nums its q).length ≤ its.length := by
  unfold nums; rw [List.length_map]; exact List.length_filter_le _ _
theorem filter_snoc (l : List α) (x : α) (q : α → Bool) : (l ++ [x]).filter q = if q x = true then l.filter q ++ [x] else l.filter q := by
  rw [List.filter_append]
  by_cases h : q x = true <;> simp [h]
theorem map_fst_filter (its : List (α × Nat)) (q : α → Bool) : (its.filter fun x => q x.1).map (·.1) = (its.map (·.1)).filter q := by
  rw [List.filter_map]; rfl
end
end Go.Proofs.Ytenajaiedoigpaa.Plain
