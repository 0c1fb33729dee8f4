/- Deeds of both books held together. No Go text. -/
import Derived.Test.YtodacdooooeofaaGreatRbI
import Derived.Test.YtodacdooooeofaaGreatBkP
namespace Go.Proofs.YtodacdooooeofaaGreat
open Go.RowKit Go.Lib
open Sh.Plain (KV get put del Rise)
set_option linter.unusedVariables false
set_option linter.unusedSimpArgs false

theorem Rel.zero : Rel zb zu := ⟨rfl, rfl, rfl, rfl, rfl⟩
/-- what both answer -/
structure Both (b : Bk) (u : U) (j : Nat) (r : Bk × Cg × Int) (r' : U × Cg × Int) : Prop where
  rel : Rel r.1 r'.1
  snd : r.2 = r'.2
  tie : r.2.2 = 0 → Tie r.1 r'.1 (j + 1)
theorem Both.bad {b : Bk} {u : U} {j : Nat} {n : Int} (hn : n ≠ 0) : Both b u j (zb, zg, n) (zu, zg, n) := ⟨Rel.zero, rfl, fun h => absurd h hn⟩
theorem Tie.nil {b : Bk} {u : U} {j : Nat} (h : Tie b u j) : (u.is = false ↔ b.c.beq zc = true) := by
  rw [h.is]; cases b.c.beq zc <;> decide
theorem Tie.ntop {b : Bk} {u : U} {j : Nat} (h : Tie b u j) (hj : j ≤ 100) : b.ix ≠ top := by
  have := h.uix; have := h.rel.ix; unfold top; omega
/-- a call goes on, is new, or ends, by its change -/
theorem Both.next {b : Bk} {u : U} {j : Nat} {k : K} (h : Tie b u j) (hi : u.is = true) (h1 : 1 ≤ k.st) (hg : (∃ a, get k.id b.live = some a) ∨ 3 < k.st ∨ (k.id = b.ix + 1 ∧ b.live.length ≠ b.rm)) (hj : j ≤ 100) :
    Both b u j (changedB b ⟨0, k, 0, 0⟩) (nextU u k) := by
  obtain ⟨u', e, ht⟩ := next_tie h hi h1 hg hj
  rw [changedB_as (h.ntop hj), e]
  exact ⟨ht.rel, by show ((⟨b.ix + 1, k, 0, 0⟩ : Cg), (0 : Int)) = _; rw [h.rel.ix], fun _ => ht⟩
theorem badA_iff {i n m : Int} (h1 : 1 ≤ i) (h2 : i ≤ top) : (i < 1 ∨ n < 1 ∨ m < 0 ∨ top < max (max i n) m) ↔ badA n m = true := by
  unfold badA
  simp only [Bool.or_eq_true, decide_eq_true_eq]
  omega
theorem place_both {b : Bk} {u : U} {j : Nat} {x : K} {n m : Int} (h : Tie b u j) (hj : j ≤ 100) : Both b u j (placeB b x n m) (placeU u x n m) := by
  have hu := h.uix; have hix := h.rel.ix
  have ht : b.ix + 1 ≤ top := by unfold top; omega
  by_cases h0 : chkK u.c x = 0
  · have hok := okc_of_chk h0
    have hi : u.is = true := by
      cases e : u.is
      · have := h.nil.1 e
        have e2 := Cfg.beq_iff.1 this
        rw [← h.rel.c, e2, okc_zc] at hok
        cases hok
      · rfl
    have h0b : chkK b.c x = 0 := by rw [h.rel.c]; exact h0
    by_cases hb : badA n m = true
    · have e1 : placeB b x n m = (zb, zg, 1) := by
        unfold placeB; rw [newA_arg h0b ((badA_iff (by omega) ht).2 hb)]; rfl
      have e2 : placeU u x n m = (zu, zg, 1) := by unfold placeU; rw [if_neg (by rw [h0]; decide), if_pos hb]
      rw [e1, e2]; exact Both.bad (by decide)
    · have e3 := newA_ok h0b (fun e => hb ((badA_iff (by omega) ht).1 e))
      have e2 : placeU u x n m = nextU u { x with id := u.ix + 1, own := n, born := m, st := 1 } := by unfold placeU; rw [if_neg (by rw [h0]; decide), if_neg hb]
      rw [e2, ← hix]
      by_cases hf : b.live.length = b.rm
      · have e1 : placeB b x n m = (zb, zg, 5) := by unfold placeB; rw [e3, if_neg (fun e => e rfl), if_pos hf]
        rw [e1, next_full h hi (by show (1 : Int) ≤ 3; decide) rfl hf]
        exact Both.bad (by decide)
      · have e1 : placeB b x n m = changedB b ⟨0, { x with id := b.ix + 1, own := n, born := m, st := 1 }, 0, 0⟩ := by unfold placeB; rw [e3, if_neg (fun e => e rfl), if_neg hf]
        rw [e1]
        exact Both.next h hi (by show (1 : Int) ≤ 1; decide) (.inr (.inr ⟨rfl, hf⟩)) hj
  · have h0b : chkK b.c x ≠ 0 := by rw [h.rel.c]; exact h0
    have e1 : placeB b x n m = (zb, zg, chkK u.c x) := by unfold placeB; rw [newA_no h0b, if_pos h0b, h.rel.c]
    have e2 : placeU u x n m = (zu, zg, chkK u.c x) := if_pos h0
    rw [e1, e2]; exact Both.bad h0
theorem find_same {b : Bk} {u : U} {j : Nat} (h : Tie b u j) (k : Int) : findB b k = findU u k := by
  unfold findB findU
  rw [get_seekK h.Ky, seek_seekK, h.rel.live, h.rel.done]
  cases seekK k u.live <;> rfl
theorem seekK_id {k : Int} {l : List K} {x : K} (h : seekK k l = some x) : x.id = k ∧ x ∈ l := by
  unfold seekK at h
  exact ⟨by simpa using List.find?_some h, List.mem_of_find?_eq_some h⟩
theorem cancel_both {b : Bk} {u : U} {j : Nat} {i n : Int} (h : Tie b u j) (hj : j ≤ 100) : Both b u j (cancelB b i n) (cancelU u i n) := by
  unfold cancelB cancelU
  cases hi : u.is
  · rw [if_pos (h.nil.1 hi), if_pos rfl]; exact Both.bad (by decide)
  · have hbz : ¬ b.c.beq zc = true := fun e => by rw [h.nil.2 e] at hi; cases hi
    rw [if_neg hbz, if_neg (by decide), find_same h]
    cases hf : findU u i with
    | none => exact Both.bad (by decide)
    | some x =>
      show Both b u j (if x.own ≠ n then _ else _) (if x.own ≠ n then _ else _)
      by_cases ho : x.own ≠ n
      · rw [if_pos ho, if_pos ho]; exact Both.bad (by decide)
      · rw [if_neg ho, if_neg ho]
        by_cases hs : x.st = 1 ∨ x.st = 2
        · have e1 : cancelK x = ({ x with st := 5 }, 0) := if_pos hs
          rw [e1, if_neg (fun e => e rfl), if_neg (by omega)]
          exact Both.next h hi (by show (1 : Int) ≤ 5; decide) (.inr (.inl (by show (3 : Int) < 5; decide))) hj
        · have e1 : cancelK x = (zk, 7) := if_neg hs
          rw [e1, if_pos (by decide), if_pos (by omega)]
          exact Both.bad (by decide)
theorem mode_set4 {m : List Int} (hl : m.length = 4) {i k : Nat} (hi : i < 4) (v : Int) : (m.set i v).getD k 0 = if k = i then v else m.getD k 0 := by
  rw [List.getD_eq_getElem?_getD, List.getD_eq_getElem?_getD, List.getElem?_set]
  by_cases e : i = k
  · subst e; rw [if_pos rfl, if_pos (by omega), if_pos rfl]; rfl
  · rw [if_neg e, if_neg (Ne.symm e)]
theorem have_iff {b : Bk} {u : U} {j : Nat} {n m : Int} (h : Tie b u j) (hi : u.is = true) : haveB b n m = false ↔ (n < 1 ∨ u.c.get 1 < n ∨ (m ≠ 1 ∧ m ≠ 2)) := by
  have h4 : u.c.get 1 ≤ 4 := (cfg_nums (h.okc hi)).2.2
  have key : modeB b n ≠ 0 ↔ (1 ≤ n ∧ n ≤ u.c.get 1) := by
    unfold modeB
    by_cases hn : 1 ≤ n ∧ n ≤ 4
    · rw [if_pos hn]
      have := h.md hi (n - 1).toNat (by omega)
      rw [this]; omega
    · rw [if_neg hn]
      constructor
      · intro e; exact absurd rfl e
      · intro e; omega
  unfold haveB
  rw [Bool.and_eq_false_iff]
  have k2 : ((modeB b n != 0) = false) ↔ ¬ (1 ≤ n ∧ n ≤ u.c.get 1) := by rw [← key]; simp
  have k3 : ((m == 1 || m == 2) = false) ↔ (m ≠ 1 ∧ m ≠ 2) := by simp
  rw [k2, k3]; omega
/-- a car's mode, by its change -/
theorem set_tie {b : Bk} {u : U} {j : Nat} {n m : Int} (h : Tie b u j) (hi : u.is = true) (hh : haveB b n m = true) (hj : j ≤ 100) :
    ∃ u', setU u n m = (u', ⟨u.ix + 1, zk, n, m⟩, 0) ∧ Tie (withB b ⟨b.ix + 1, zk, n, m⟩) u' (j + 1) := by
  have hnb : ¬ (n < 1 ∨ u.c.get 1 < n ∨ (m ≠ 1 ∧ m ≠ 2)) := fun e => by rw [(have_iff h hi).2 e] at hh; cases hh
  have h4 : u.c.get 1 ≤ 4 := (cfg_nums (h.okc hi)).2.2
  have hu := h.uix; have hix := h.rel.ix
  have hbz : b.c.beq zc = false := by have := h.is; rw [hi] at this; simpa using this.symm
  rw [withB_car (by show n ≠ 0; omega)]
  refine ⟨_, by unfold setU; rw [if_neg (by rw [hi]; decide), if_neg hnb], ?_⟩
  refine ⟨⟨h.rel.c, by show b.ix + 1 = u.ix + 1; omega, h.rel.live, h.rel.done, by show b.m.set _ _ = u.m.set _ _; rw [h.rel.m]⟩, ⟨fun _ => h.ok.pos hbz, by show 0 ≤ b.ix + 1 ∧ b.ix + 1 ≤ top; unfold top; omega⟩, by show 0 ≤ u.ix + 1 ∧ u.ix + 1 ≤ ((j + 1 : Nat) : Int); omega, by show u.live.length ≤ j + 1; have := h.ul; omega, by show u.done.length ≤ j + 1; have := h.ud; omega, h.is, h.okc, h.rl, h.rd, fun p hp => ?_, fun p hp => ?_, h.room, h.cl, h.cd, fun _ i hi4 => ?_⟩
  · obtain ⟨c1, c2, c3⟩ := h.kl p hp
    exact ⟨c1, c2, by show p.1 ≤ b.ix + 1; omega⟩
  · obtain ⟨c1, c2⟩ := h.kd p hp
    exact ⟨by show p.1 ≤ b.ix + 1; omega, c2⟩
  · show (b.m.set (n - 1).toNat m).getD i 0 ≠ 0 ↔ _
    rw [mode_set4 b.ml (by omega)]
    by_cases e : i = (n - 1).toNat
    · rw [if_pos e]
      show m ≠ 0 ↔ (i : Int) < u.c.get 1
      omega
    · rw [if_neg e]; exact h.md hi i hi4
theorem set_both {b : Bk} {u : U} {j : Nat} {n m : Int} (h : Tie b u j) (hj : j ≤ 100) : Both b u j (setB b n m) (setU u n m) := by
  cases hi : u.is
  · have e1 : setB b n m = (zb, zg, 3) := if_pos (h.nil.1 hi)
    have e2 : setU u n m = (zu, zg, 3) := if_pos hi
    rw [e1, e2]; exact Both.bad (by decide)
  · have hbz : ¬ b.c.beq zc = true := fun e => by rw [h.nil.2 e] at hi; cases hi
    cases hh : haveB b n m
    · have e1 : setB b n m = (zb, zg, 1) := by unfold setB; rw [if_neg hbz, if_pos hh]
      have e2 : setU u n m = (zu, zg, 1) := by unfold setU; rw [if_neg (by rw [hi]; decide), if_pos ((have_iff h hi).1 hh)]
      rw [e1, e2]; exact Both.bad (by decide)
    · have e1 : setB b n m = changedB b ⟨0, zk, n, m⟩ := by unfold setB; rw [if_neg hbz, if_neg (by rw [hh]; decide)]
      obtain ⟨u', e2, ht⟩ := set_tie h hi hh hj
      rw [e1, e2, changedB_as (h.ntop hj)]
      exact ⟨ht.rel, by show ((⟨b.ix + 1, zk, n, m⟩ : Cg), (0 : Int)) = _; rw [h.rel.ix], fun _ => ht⟩
/-- what Apply answers -/
structure BothA (b : Bk) (u : U) (j : Nat) (r : Bk × Int) (r' : U × Int) : Prop where
  rel : Rel r.1 r'.1
  snd : r.2 = r'.2
  tie : r.2 = 0 → Tie r.1 r'.1 (j + 1)
theorem BothA.bad {b : Bk} {u : U} {j : Nat} {n : Int} (hn : n ≠ 0) : BothA b u j (zb, n) (zu, n) := ⟨Rel.zero, rfl, fun h => absurd h hn⟩
theorem st_ite {p : Prop} [Decidable p] {r r' : K × Int} (h1 : p → r.2 = 0 → 1 ≤ r.1.st) (h2 : ¬ p → r'.2 = 0 → 1 ≤ r'.1.st) (h : (if p then r else r').2 = 0) : 1 ≤ (if p then r else r').1.st := by
  by_cases hp : p
  · rw [if_pos hp] at h ⊢; exact h1 hp h
  · rw [if_neg hp] at h ⊢; exact h2 hp h
theorem st_7 : ((zk, (7 : Int)) : K × Int).2 = 0 → 1 ≤ ((zk, (7 : Int)) : K × Int).1.st := fun h => absurd h (by decide)
theorem st_1 : ((zk, (1 : Int)) : K × Int).2 = 0 → 1 ≤ ((zk, (1 : Int)) : K × Int).1.st := fun h => absurd h (by decide)
theorem kfree_st (y : K) : (kfree y).st = y.st := by unfold kfree; split <;> rfl
theorem left_st (x : K) (n : Int) : (leftK x n).st = 1 := by unfold leftK; split <;> rw [kfree_st]
theorem leave_st1 {c : Cfg} {x : K} {n : Int} (h : (leaveK c x n).2 = 0) : 1 ≤ (leaveK c x n).1.st :=
  st_ite (fun _ => st_ite (fun _ => st_ite (fun _ _ => by show (1 : Int) ≤ 4; decide) (fun _ _ => by show 1 ≤ (leftK x n).st; rw [left_st]; decide)) (fun _ => st_1)) (fun _ => st_7) h
theorem may_st {c : Cfg} {a k : K} (h : mayK c a k = true) : 1 ≤ k.st := by
  unfold mayK at h
  rw [Bool.and_eq_true, List.any_eq_true] at h
  obtain ⟨_, i, hi, hh⟩ := h
  have hi : i < 7 := by simpa using hi
  unfold hit at hh
  rw [Bool.and_eq_true] at hh
  have h0 : (stepK c a k i).2 = 0 := of_decide_eq_true hh.1
  have hk : (stepK c a k i).1 = k := K.beq_iff.1 hh.2
  suffices 1 ≤ (stepK c a k i).1.st by rwa [hk] at this
  clear hh hk
  match i, hi with
  | 0, _ => exact st_ite (fun _ => st_ite (fun _ _ => by show (1 : Int) ≤ 2; decide) (fun _ => st_1)) (fun _ => st_7) h0
  | 1, _ => exact leave_st1 h0
  | 2, _ => exact leave_st1 h0
  | 3, _ => exact st_ite (fun _ _ => by show (1 : Int) ≤ 3; decide) (fun _ => st_7) h0
  | 4, _ => exact st_ite (fun _ _ => by show (1 : Int) ≤ 4; decide) (fun _ => st_7) h0
  | 5, _ => exact st_ite (fun _ _ => by show (1 : Int) ≤ 5; decide) (fun _ => st_7) h0
  | 6, _ => exact st_ite (fun _ _ => by show 1 ≤ (kfree { a with st := 6 }).st; rw [kfree_st]; show (1 : Int) ≤ 6; decide) (fun _ => st_7) h0
theorem plain_asked (k : K) : plainK k = askedK k := rfl
theorem isPl_bad {b : Bk} {u : U} {j : Nat} {x : Cg} (h : Tie b u j) (hj : j ≤ 100) (hx : x.ix = b.ix + 1) (hc : x.car = 0 ∧ x.mode = 0) : isPlB b x = !badP u x := by
  have hu := h.uix; have hix := h.rel.ix
  have ht : 1 ≤ x.ix ∧ x.ix ≤ top := by unfold top; omega
  unfold isPlB badP
  rw [plain_asked, h.rel.c]
  by_cases h0 : chkK u.c (askedK x.k) = 0
  · by_cases hb : badA x.k.own x.k.born = true
    · rw [newA_arg h0 ((badA_iff ht.1 ht.2).2 hb), hb]
      simp
    · have hb' : badA x.k.own x.k.born = false := by simpa using hb
      rw [newA_ok h0 (fun e => hb ((badA_iff ht.1 ht.2).1 e)), hb', h0]
      rw [Bool.eq_iff_iff]
      simp only [Bool.and_eq_true, Bool.not_eq_true', Bool.or_eq_false_iff, bne_eq_false_iff_eq, Cg.beq_iff]
      obtain ⟨ix, ⟨i1, i2, i3, i4, i5, i6, i7, i8⟩, car, mode⟩ := x
      obtain ⟨rfl, rfl⟩ := hc
      simp [askedK]
  · rw [newA_no h0]
    have e1 : (chkK u.c (askedK x.k) == 0) = false := by simpa using h0
    have e2 : (chkK u.c (askedK x.k) != 0) = true := by simpa using h0
    simp [e1, e2]
theorem apply_both {b : Bk} {u : U} {j : Nat} {x : Cg} (h : Tie b u j) (hj : j ≤ 100) (hr : inI64 x.ix) : BothA b u j (applyB b x) (applyU u x) := by
  have hu := h.uix; have hix := h.rel.ix
  cases hi : u.is
  · have e1 : applyB b x = (zb, 3) := if_pos (h.nil.1 hi)
    have e2 : applyU u x = (zu, 3) := if_pos hi
    rw [e1, e2]; exact BothA.bad (by decide)
  · have hbz : b.c.beq zc = false := by have := h.is; rw [hi] at this; simpa using this.symm
    have hnz : ¬ b.c.beq zc = true := by rw [hbz]; decide
    by_cases hx : x.ix = b.ix + 1
    · have hx2 : ¬ (x.ix < 1 ∨ wrap64 (x.ix - 1) ≠ u.ix) := by
        rintro (e | e)
        · omega
        · exact e (by rw [IntWalk.wrap64_in _ (by omega)]; omega)
      have eu : applyU u x = if x.k.beq zk = true then p2 (setU u x.car x.mode) else if x.car ≠ 0 ∨ x.mode ≠ 0 then (zu, 1) else match seekK x.k.id u.live with
          | some a => if mayK u.c a x.k = true then p2 (nextU u x.k) else (zu, 1)
          | none => if badP u x = true then (zu, 1) else p2 (nextU u x.k) := by
        unfold applyU; rw [if_neg (by rw [hi]; decide), if_neg hx2]; rfl
      have eb : ∀ t, (isPlB b x || isOnB b x || isSetB b x) = t → applyB b x = if t = false then (zb, 1) else if isPlB b x = true ∧ b.live.length = b.rm then (zb, 5) else (withB b x, 0) := fun t ht => by
        subst ht
        unfold applyB
        rw [if_neg hnz]
        by_cases e : (isPlB b x || isOnB b x || isSetB b x) = false
        · rw [if_pos (.inr e), if_pos e]
        · rw [if_neg (fun e2 => e2.elim (fun e3 => e3 hx) e), if_neg e]
          by_cases e4 : isPlB b x = true ∧ b.live.length = b.rm
          · rw [if_pos (.inl e4), if_pos e4]
          · rw [if_neg (fun e5 => e5.elim e4 (h.ntop hj)), if_neg e4]
      have g0 : get 0 b.live = none := Sh.Plain.get_none (fun y hy e => by have := (h.kl y hy).2.1; omega)
      rw [eu]
      cases hk : x.k.beq zk
      · rw [if_neg (by decide)]
        have hset : isSetB b x = false := by unfold isSetB; rw [hk]; rfl
        by_cases hc : x.car ≠ 0 ∨ x.mode ≠ 0
        · rw [if_pos hc]
          have hpl : isPlB b x = false := by
            unfold isPlB
            rw [Cg.beq_ne (fun e => by
              have e1 := congrArg Cg.car e; have e2 := congrArg Cg.mode e
              exact hc.elim (fun h => h e1) (fun h => h e2)), Bool.and_false]
          have hon : isOnB b x = false := by
            unfold isOnB
            split
            · rfl
            · rw [Cg.beq_ne (fun e => by
                have e1 := congrArg Cg.car e; have e2 := congrArg Cg.mode e
                exact hc.elim (fun h => h e1) (fun h => h e2)), Bool.false_and]
          rw [eb false (by rw [hpl, hon, hset]; rfl), if_pos rfl]
          exact BothA.bad (by decide)
        · have hc2 : x.car = 0 ∧ x.mode = 0 := ⟨Decidable.byContradiction fun e => hc (.inl e), Decidable.byContradiction fun e => hc (.inr e)⟩
          rw [if_neg hc]
          have hxe : x = ⟨b.ix + 1, x.k, 0, 0⟩ := by
            obtain ⟨ix, k, car, mode⟩ := x
            obtain ⟨rfl, rfl⟩ := hc2
            obtain rfl : ix = b.ix + 1 := hx
            rfl
          have hsk : seekK x.k.id u.live = get x.k.id b.live := by rw [get_seekK h.Ky, h.rel.live]
          rw [hsk]
          cases hg : get x.k.id b.live with
          | some a =>
            have hm := h.kl _ (Sh.Plain.get_mem hg)
            have hpl : isPlB b x = false := by
              cases e : isPlB b x
              · rfl
              · have e1 := (isPl_k e).2.2
                have e2 : x.k.id ≤ b.ix := hm.2.2
                omega
            have hon : isOnB b x = mayK u.c a x.k := by
              unfold isOnB
              rw [hg]
              show (x.beq ⟨x.ix, x.k, 0, 0⟩ && mayK b.c a x.k) = _
              rw [Cg.beq_iff.2 (by rw [hx]; exact hxe), h.rel.c, Bool.true_and]
            show BothA b u j _ (if mayK u.c a x.k = true then _ else _)
            cases hy : mayK u.c a x.k
            · rw [if_neg (by decide), eb false (by rw [hpl, hon, hset, hy]; rfl), if_pos rfl]
              exact BothA.bad (by decide)
            · rw [if_pos rfl, eb true (by rw [hpl, hon, hset, hy]; rfl), if_neg (by decide), if_neg (fun e => by rw [hpl] at e; cases e.1)]
              obtain ⟨u', e2, ht⟩ := next_tie h hi (may_st hy) (.inl ⟨a, hg⟩) hj
              rw [e2, hxe]
              exact ⟨ht.rel, rfl, fun _ => ht⟩
          | none =>
            have hon : isOnB b x = false := by unfold isOnB; rw [hg]
            have hpb := isPl_bad h hj hx hc2
            show BothA b u j _ (if badP u x = true then _ else _)
            cases hb : badP u x
            · rw [hb] at hpb
              obtain ⟨_, hst, hid⟩ := isPl_k hpb
              rw [if_neg (by decide), eb true (by rw [hpb]; rfl), if_neg (by decide)]
              by_cases hf : b.live.length = b.rm
              · rw [if_pos ⟨hpb, hf⟩, next_full h hi (by rw [hst]; decide) (by rw [hid, hx]) hf]
                exact BothA.bad (by decide)
              · rw [if_neg (fun e => hf e.2)]
                obtain ⟨u', e2, ht⟩ := next_tie h hi (by rw [hst]; decide) (.inr (.inr ⟨by rw [hid, hx], hf⟩)) hj
                rw [e2, hxe]
                exact ⟨ht.rel, rfl, fun _ => ht⟩
            · rw [hb] at hpb
              rw [if_pos rfl, eb false (by rw [hpb, hon, hset]; rfl), if_pos rfl]
              exact BothA.bad (by decide)
      · rw [if_pos rfl]
        have hkz := K.beq_iff.1 hk
        have hpl : isPlB b x = false := by
          cases e : isPlB b x
          · rfl
          · have e1 := (isPl_k e).2.1
            rw [hkz] at e1
            exact absurd e1 (by decide)
        have hon : isOnB b x = false := by
          unfold isOnB
          rw [hkz]
          show (match get 0 b.live with | none => false | some a => _) = false
          rw [g0]
        have hset : isSetB b x = haveB b x.car x.mode := by unfold isSetB; rw [hk, Bool.true_and]
        cases hh : haveB b x.car x.mode
        · rw [eb false (by rw [hpl, hon, hset, hh]; rfl), if_pos rfl]
          have e2 : setU u x.car x.mode = (zu, zg, 1) := by unfold setU; rw [if_neg (by rw [hi]; decide), if_pos ((have_iff h hi).1 hh)]
          rw [e2]; exact BothA.bad (by decide)
        · rw [eb true (by rw [hpl, hon, hset, hh]; rfl), if_neg (by decide), if_neg (fun e => by rw [hpl] at e; cases e.1)]
          obtain ⟨u', e2, ht⟩ := set_tie h hi hh hj
          have hxe : x = ⟨b.ix + 1, zk, x.car, x.mode⟩ := by
            obtain ⟨ix, k, car, mode⟩ := x
            obtain rfl : ix = b.ix + 1 := hx
            obtain rfl : k = zk := hkz
            rfl
          rw [e2]
          have hw : withB b x = withB b ⟨b.ix + 1, zk, x.car, x.mode⟩ := congrArg _ hxe
          rw [hw]
          exact ⟨ht.rel, rfl, fun _ => ht⟩
    · have hx2 : x.ix < 1 ∨ wrap64 (x.ix - 1) ≠ u.ix := by
        by_cases e : x.ix < 1
        · exact .inl e
        · refine .inr (fun e2 => hx ?_)
          unfold inI64 at hr
          rw [IntWalk.wrap64_in _ (by omega)] at e2
          omega
      have e1 : applyB b x = (zb, 1) := by unfold applyB; rw [if_neg hnz, if_pos (.inl hx)]
      have e2 : applyU u x = (zu, 1) := by unfold applyU; rw [if_neg (by rw [hi]; decide), if_pos hx2]
      rw [e1, e2]; exact BothA.bad (by decide)
theorem modesTo_md {n i : Nat} (h : i < 4) : (modesTo n).getD i 0 ≠ 0 ↔ i < n := by
  unfold modesTo
  rw [List.getD_eq_getElem?_getD, List.getElem?_map, List.getElem?_range h]
  show (if i < n then (1 : Int) else 0) ≠ 0 ↔ i < n
  by_cases e : i < n
  · rw [if_pos e]; simp [e]
  · rw [if_neg e]; simp [e]
theorem Tie.new (c : Cfg) : Tie (newB c) (newU c) 0 := by
  unfold newB newU
  cases h : YtodacdooooeofaaGreat.okc c
  · rw [if_neg (by decide), if_neg (by decide)]
    refine ⟨Rel.zero, zb_ok, by decide, by decide, by decide, by rw [show zb.c.beq zc = true from Cfg.beq_self zc]; rfl, (fun e => by cases e), List.Pairwise.nil, List.Pairwise.nil, (fun p hp => by cases hp), (fun p hp => by cases hp), (fun e => by cases e), Nat.le_refl _, Nat.le_refl _, (fun e => by cases e)⟩
  · rw [if_pos rfl, if_pos rfl]
    obtain ⟨h3, h1⟩ := cfg_nums h
    refine ⟨⟨rfl, rfl, rfl, rfl, rfl⟩, newBk_ok _ h, by show (0 : Int) ≤ 0 ∧ (0 : Int) ≤ 0; decide, Nat.le_refl _, Nat.le_refl _, ?_, fun _ => h, List.Pairwise.nil, List.Pairwise.nil, (fun p hp => by cases hp), (fun p hp => by cases hp), (fun _ => by show (((c.get 3).toNat : Nat) : Int) = c.get 3; omega), Nat.zero_le _, Nat.zero_le _, fun _ i hi => ?_⟩
    · show true = !(c.beq zc)
      rw [nil_of_bad h]; rfl
    · show (modesTo (c.get 1).toNat).getD i 0 ≠ 0 ↔ (i : Int) < c.get 1
      rw [modesTo_md hi]; omega
end Go.Proofs.YtodacdooooeofaaGreat
/- Deeds and books in blocks of their own. -/
namespace Go.Proofs.YtodacdooooeofaaGreat
open Go.RowKit Go.Lib
open Sh.Plain (KV get put del Rise)
set_option linter.unusedVariables false
set_option linter.unusedSimpArgs false

theorem run_alloc39 {ρ : Operand → Value} {w : World} {d : Option Tmp} {t : TypeId} {pos : String} {af : Array Edge} {gd : Option (Nat × Bool)} : (execOp ρ { dst := d, op := Op.alloc 42, type := t, pos := pos, after := af, guard := gd }).run Tryz.prog w = .ok (.value (ptr w.heap.size 0)) (w.alloc (.cells zg.cells 42)) := by
  simp [execOp, go_sem]
  rfl
/-- what a deed answers, as a tuple -/
def TrAt (b : Bk) (x : Cg) (n : Int) (v : Value) (w : World) : Prop := ∃ o p, v = .tuple #[b.V o p, x.V, .int .i64 n] ∧ BAt w b o p
theorem TrAt.keep {b : Bk} {x : Cg} {n : Int} {v : Value} {w w' : World} (h : TrAt b x n v w) (hb : Below w.heap.size w w') : TrAt b x n v w' := by
  obtain ⟨o, p, rfl, h⟩ := h
  exact ⟨o, p, rfl, h.step hb⟩
theorem Dd.at_ {w : World} {b off : Nat} {y : Dd} (h : w.rangeAt b off y.cells.toList) : w.cell? ⟨b, off, none⟩ = some (.int .i64 y.kind) ∧ w.rangeAt b (off + 1) y.x.cells.toList ∧ w.cell? ⟨b, off + 9, none⟩ = some (.int .i64 y.n) ∧ w.cell? ⟨b, off + 10, none⟩ = some (.int .i64 y.m) ∧ w.rangeAt b (off + 11) y.ch.cells.toList := by
  refine ⟨h 0 _ rfl, fun j u hu => ?_, h 9 _ rfl, h 10 _ rfl, fun j u hu => ?_⟩
  · have hj : j < 8 := (List.getElem?_eq_some_iff.1 hu).1
    have e : y.cells.toList[1 + j]? = some u := by
      match j, hj with
      | 0, _ => exact hu
      | 1, _ => exact hu
      | 2, _ => exact hu
      | 3, _ => exact hu
      | 4, _ => exact hu
      | 5, _ => exact hu
      | 6, _ => exact hu
      | 7, _ => exact hu
    have := h (1 + j) u e
    rwa [← Nat.add_assoc] at this
  · have hj : j < 11 := (List.getElem?_eq_some_iff.1 hu).1
    have e : y.cells.toList[11 + j]? = some u := by
      match j, hj with
      | 0, _ => exact hu
      | 1, _ => exact hu
      | 2, _ => exact hu
      | 3, _ => exact hu
      | 4, _ => exact hu
      | 5, _ => exact hu
      | 6, _ => exact hu
      | 7, _ => exact hu
      | 8, _ => exact hu
      | 9, _ => exact hu
      | 10, _ => exact hu
    have := h (11 + j) u e
    rwa [← Nat.add_assoc] at this
theorem mode_num (mo : Int) (h : inI64 mo) : ∃ md : Int, wrap64 (1 + wrap64 ((IntKind.u64.wrap mo).tmod 2)) = md ∧ (md = 1 ∨ md = 2) := by
  have h0 : 0 ≤ IntKind.u64.wrap mo := by
    simp only [IntKind.wrap, IntKind.signed, IntKind.bits]
    simp
    omega
  generalize IntKind.u64.wrap mo = z at *
  have e : z.tmod 2 = z % 2 := Int.tmod_eq_emod_of_nonneg h0
  rw [e]
  have : z % 2 = 0 ∨ z % 2 = 1 := by omega
  rcases this with e | e <;> rw [e]
  · exact ⟨1, by rw [show wrap64 0 = 0 from wrap_in (by omega) (by omega)]; exact wrap_in (by omega) (by omega), .inl rfl⟩
  · exact ⟨2, by rw [show wrap64 1 = 1 from wrap_in (by omega) (by omega)]; exact wrap_in (by omega) (by omega), .inr rfl⟩
/-- a book in a block of its own -/
structure AS (w wx : World) (q : Nat) (s : Bk) (o p : Option Addr) : Prop where
  bel : Below w.heap.size w wx
  bk : BkAt wx q s o p
  at_ : BAt wx s o p
  lo : w.heap.size ≤ q
theorem AS.step {w W W' : World} {q : Nat} {s : Bk} {o p : Option Addr} (h : AS w W q s o p) (hb : Below W.heap.size W W') : AS w W' q s o p := ⟨h.bel.trans (hb.mono h.bel.size), h.bk.step hb, h.at_.step hb, h.lo⟩
theorem AS.put {w W : World} {q : Nat} {s d : Bk} {o p o' p' : Option Addr} (h : AS w W q s o p) (hd : BAt W d o' p') : AS w (W.setRow q (d.cells o' p')) q d o' p' :=
  ⟨setRow_below h.bel h.lo _, At.setRow h.bk _, hd.farRow h.bk (by decide) (by decide), h.lo⟩
/-- two answers stored in new blocks -/
theorem AS.two {w W : World} {q q1 r1 : Nat} {s d : Bk} {o p o' p' : Option Addr} {x : Cg} (h : AS w W q s o p) (ha : BAt W d o' p') (h1 : BkAt W q1 zb none none) (h2 : CgAt W r1 zg) (l1 : q < q1) (l2 : q < r1) :
    AS w ((W.setRow q1 (d.cells o' p')).setRow r1 x.cells) q s o p ∧ BkAt ((W.setRow q1 (d.cells o' p')).setRow r1 x.cells) q1 d o' p' ∧ BAt ((W.setRow q1 (d.cells o' p')).setRow r1 x.cells) d o' p' := by
  have n12 : q1 ≠ r1 := At.ne h1 h2 (by decide)
  have hr : CgAt (W.setRow q1 (d.cells o' p')) r1 zg := At.farRow h2 (Ne.symm n12)
  have lw := h.lo
  refine ⟨⟨setRow_below (setRow_below h.bel (by omega) _) (by omega) _, (h.bk.farRow (by omega)).farRow (by omega), (h.at_.farRow h1 (by decide) (by decide)).farRow hr (by decide) (by decide), h.lo⟩, (At.setRow h1 _).farRow n12, (ha.farRow h1 (by decide) (by decide)).farRow hr (by decide) (by decide)⟩
end Go.Proofs.YtodacdooooeofaaGreat
