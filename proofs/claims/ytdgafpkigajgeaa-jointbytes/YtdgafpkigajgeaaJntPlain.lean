/- The plain mathematics of frames out of pieces: how many frames bytes hold, what is left behind them, and that more bytes go on where the others ended. No Go text. -/
import Derived.Test.YtdgafpkigajgeaaFrmG
namespace Go.Proofs.Ytdgafpkigajgeaa.Plain

theorem lenOf_app {l : List UInt8} (m : List UInt8) (h : 2 ≤ l.length) : lenOf (l ++ m) = lenOf l := by
  unfold lenOf; rw [List.take_append_of_le_length h]
/-- what is whole is whole, whatever comes behind -/
theorem whole_app {l : List UInt8} (m : List UInt8) (h : nSt l = 1) : nSt (l ++ m) = 1 ∧ nBody (l ++ m) = nBody l ∧ nUsed (l ++ m) = nUsed l := by
  obtain ⟨h2, h1, h3, h6, hs⟩ := whole h
  have e := lenOf_app m h2
  have hl : (l ++ m).length = l.length + m.length := List.length_append
  have s1 : nSt (l ++ m) = 1 := by
    rw [nSt_sum (by omega) (by omega) (by omega), e, if_pos]
    rw [List.drop_append_of_le_length (by omega), List.take_append_of_le_length (by rw [List.length_drop]; omega), List.take_append_of_le_length (by omega)]
    exact hs
  refine ⟨s1, ?_, ?_⟩
  · rw [nBody_yes s1, nBody_yes h, e, List.drop_append_of_le_length h2, List.take_append_of_le_length (by rw [List.length_drop]; omega)]
  · rw [nUsed_yes s1, nUsed_yes h, e]
/-- what is bad is bad, whatever comes behind -/
theorem bad_app {l : List UInt8} (m : List UInt8) (h : nSt l = 3) : nSt (l ++ m) = 3 := by
  have h2 : 2 ≤ l.length := by
    rcases Nat.lt_or_ge l.length 2 with h2 | h2
    · rw [nSt_short h2] at h; omega
    · exact h2
  have e := lenOf_app m h2
  have hl : (l ++ m).length = l.length + m.length := List.length_append
  by_cases h3 : lenOf l < 1 ∨ 2048 < lenOf l
  · exact nSt_len (by omega) (by rw [e]; exact h3)
  by_cases h6 : l.length < lenOf l + 6
  · rw [nSt_more (by omega) h3 h6] at h; omega
  rw [nSt_sum (by omega) h3 h6] at h
  rw [nSt_sum (by omega) (by rw [e]; exact h3) (by omega), e, List.drop_append_of_le_length (by omega), List.take_append_of_le_length (by rw [List.length_drop]; omega), List.take_append_of_le_length (by omega)]
  exact h
theorem rst_app (l m : List UInt8) (j : Nat) (h : ∀ i, i < j → nSt (rst l i) = 1) : rst (l ++ m) j = rst l j ++ m := by
  induction j with
  | zero => rfl
  | succ j ih =>
    have e := ih (fun i hi => h i (by omega))
    have hj := h j (by omega)
    have hw := whole hj
    show (rst (l ++ m) j).drop (nUsed (rst (l ++ m) j)) = (rst l j).drop (nUsed (rst l j)) ++ m
    rw [e, (whole_app m hj).2.2, List.drop_append_of_le_length (by rw [nUsed_yes hj]; omega)]
theorem rst_add (l : List UInt8) (i j : Nat) : rst l (i + j) = rst (rst l i) j := by
  induction j with
  | zero => rfl
  | succ j ih =>
    show (rst l (i + j)).drop (nUsed (rst l (i + j))) = (rst (rst l i) j).drop (nUsed (rst (rst l i) j))
    rw [ih]
theorem bods_add (l : List UInt8) (i j : Nat) : bods l (i + j) = bods l i ++ bods (rst l i) j := by
  induction j with
  | zero => simp [bods]
  | succ j ih => rw [← Nat.add_assoc, bods_succ, ih, bods_succ, rst_add, List.append_assoc]
theorem bods_app (l m : List UInt8) (n : Nat) (h : ∀ i, i < n → nSt (rst l i) = 1) : bods (l ++ m) n = bods l n := by
  unfold bods
  apply List.map_congr_left
  intro i hi
  rw [List.mem_range] at hi
  rw [rst_app l m i (fun k hk => h k (by omega)), (whole_app m (h i hi)).2.1]
theorem rst_many (l : List UInt8) (j : Nat) (h : ∀ i, i < j → nSt (rst l i) = 1) : j + (rst l j).length ≤ l.length := by
  induction j with
  | zero => show 0 + l.length ≤ _; omega
  | succ j ih =>
    have := ih (fun i hi => h i (by omega))
    have hj := h j (by omega)
    have hw := whole hj
    have hu := nUsed_yes hj
    show j + 1 + ((rst l j).drop (nUsed (rst l j))).length ≤ _
    rw [List.length_drop]; omega

/-- how many whole frames bytes begin with (f: no fewer than the bytes) -/
def cntF : Nat → List UInt8 → Nat
  | 0, _ => 0
  | f + 1, l => if nSt l = 1 then cntF f (l.drop (nUsed l)) + 1 else 0
def cnt (l : List UInt8) : Nat := cntF l.length l
theorem CutsTo.cons {l : List UInt8} {n : Nat} (h : nSt l = 1) (k : CutsTo (l.drop (nUsed l)) n) : CutsTo l (n + 1) := by
  have e : ∀ i, rst l (i + 1) = rst (l.drop (nUsed l)) i := fun i => by rw [Nat.add_comm, rst_add]; rfl
  refine ⟨fun i hi => ?_, by rw [e]; exact k.stop⟩
  cases i with
  | zero => exact h
  | succ i => rw [e]; exact k.all i (by omega)
theorem cutsF (f : Nat) (l : List UInt8) (h : l.length ≤ f) : CutsTo l (cntF f l) := by
  induction f generalizing l with
  | zero =>
    have : l = [] := List.length_eq_zero_iff.1 (by omega)
    subst this
    exact ⟨fun i hi => absurd hi (by simp [cntF]), by decide⟩
  | succ f ih =>
    unfold cntF
    by_cases h1 : nSt l = 1
    · rw [if_pos h1]
      refine CutsTo.cons h1 (ih _ ?_)
      have hw := whole h1
      rw [List.length_drop, nUsed_yes h1]; omega
    · rw [if_neg h1]
      exact ⟨fun i hi => absurd hi (by omega), h1⟩
theorem cuts (l : List UInt8) : CutsTo l (cnt l) := cutsF _ _ (Nat.le_refl _)
theorem cnt_of {l : List UInt8} {n : Nat} (h : CutsTo l n) : cnt l = n := (cuts l).eq h
/-- what is left behind the frames -/
def jR (l : List UInt8) : List UInt8 := rst l (cnt l)
/-- the bodies of the frames -/
def told (l : List UInt8) : List (List UInt8) := bods l (cnt l)
/-- whether what is left is bad -/
def jB (l : List UInt8) : Bool := decide (nSt (jR l) = 3)
/-- what waits -/
def jW (l : List UInt8) : List UInt8 := if jB l = true then [] else jR l
theorem told_length (l : List UInt8) : (told l).length = cnt l := bods_length _ _
theorem cnt_le (l : List UInt8) : cnt l ≤ l.length := by have := rst_many l (cnt l) (cuts l).all; omega
theorem jR_le (l : List UInt8) : (jR l).length ≤ l.length := by have := rst_many l (cnt l) (cuts l).all; unfold jR; omega
theorem jB_iff (l : List UInt8) : jB l = true ↔ nSt (jR l) = 3 := by simp [jB]
theorem jW_bad {l : List UInt8} (h : jB l = true) : jW l = [] := if_pos h
theorem jW_ok {l : List UInt8} (h : jB l = false) : jW l = jR l := if_neg (by rw [h]; decide)
/-- the bodies that come by more bytes -/
def news (l m : List UInt8) : List (List UInt8) := told (jR l ++ m)
theorem cuts_app (l m : List UInt8) : CutsTo (l ++ m) (cnt l + cnt (jR l ++ m)) := by
  have ha := (cuts l).all
  have hr : rst (l ++ m) (cnt l) = jR l ++ m := rst_app l m _ ha
  refine ⟨fun i hi => ?_, ?_⟩
  · rcases Nat.lt_or_ge i (cnt l) with h | h
    · rw [rst_app l m i (fun k hk => ha k (by omega))]
      exact (whole_app m (ha i h)).1
    · obtain ⟨k, rfl⟩ := Nat.exists_eq_add_of_le h
      rw [rst_add, hr]
      exact (cuts (jR l ++ m)).all k (by omega)
  · rw [rst_add, hr]
    exact (cuts (jR l ++ m)).stop
theorem cnt_app (l m : List UInt8) : cnt (l ++ m) = cnt l + cnt (jR l ++ m) := cnt_of (cuts_app l m)
theorem jR_app (l m : List UInt8) : jR (l ++ m) = jR (jR l ++ m) := by
  show rst (l ++ m) (cnt (l ++ m)) = _
  rw [cnt_app, rst_add, rst_app l m _ (cuts l).all]
  rfl
theorem told_app (l m : List UInt8) : told (l ++ m) = told l ++ news l m := by
  show bods (l ++ m) (cnt (l ++ m)) = _
  rw [cnt_app, bods_add, rst_app l m _ (cuts l).all, bods_app l m _ (cuts l).all]
  rfl
theorem jB_app (l m : List UInt8) : jB (l ++ m) = jB (jR l ++ m) := by unfold jB; rw [jR_app]
theorem jW_app (l m : List UInt8) : jW (l ++ m) = jW (jR l ++ m) := by unfold jW; rw [jB_app, jR_app]
/-- of what doesn't begin with a whole frame nothing is told -/
theorem cuts_none {l : List UInt8} (h : nSt l ≠ 1) : CutsTo l 0 := ⟨fun i hi => absurd hi (by omega), h⟩
theorem cnt_none {l : List UInt8} (h : nSt l ≠ 1) : cnt l = 0 := cnt_of (cuts_none h)
theorem jR_none {l : List UInt8} (h : nSt l ≠ 1) : jR l = l := by unfold jR; rw [cnt_none h]; rfl
theorem told_none {l : List UInt8} (h : nSt l ≠ 1) : told l = [] := by unfold told; rw [cnt_none h]; rfl
theorem bad_stays {l : List UInt8} (m : List UInt8) (h : jB l = true) : jB (l ++ m) = true ∧ cnt (l ++ m) = cnt l ∧ news l m = [] ∧ jW (l ++ m) = [] := by
  have h3 := bad_app m ((jB_iff l).1 h)
  have h1 : nSt (jR l ++ m) ≠ 1 := by omega
  have hb : jB (l ++ m) = true := by rw [jB_app, jB_iff, jR_none h1]; exact h3
  exact ⟨hb, by rw [cnt_app, cnt_none h1]; omega, told_none h1, jW_bad hb⟩
theorem jW_length (l : List UInt8) : (jW l).length ≤ 2053 := by
  cases hb : jB l
  · rw [jW_ok hb]
    have hs : nSt (jR l) ≠ 1 := (cuts l).stop
    have h3 : nSt (jR l) ≠ 3 := fun h => by rw [(jB_iff l).2 h] at hb; exact absurd hb (by decide)
    generalize jR l = r at hs h3
    rcases Nat.lt_or_ge r.length 2 with h2 | h2
    · omega
    by_cases hl : lenOf r < 1 ∨ 2048 < lenOf r
    · exact absurd (nSt_len (by omega) hl) h3
    by_cases h6 : r.length < lenOf r + 6
    · omega
    · have := nSt_sum (l := r) (by omega) hl h6
      split at this
      · exact absurd this hs
      · exact absurd this h3
  · rw [jW_bad hb]; simp
theorem nSt_nil : nSt [] = 2 := rfl
theorem cnt_nil : cnt [] = 0 := rfl
theorem told_nil : told [] = [] := rfl
theorem jR_nil : jR [] = [] := rfl
theorem jB_nil : jB [] = false := by decide
theorem jW_nil : jW [] = [] := by decide
end Go.Proofs.Ytdgafpkigajgeaa.Plain
