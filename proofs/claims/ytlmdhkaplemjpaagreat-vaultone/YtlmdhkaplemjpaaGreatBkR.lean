/- What a book's changes make: each that was made can be applied, and they make the same book. No Go text. -/
import Derived.Test.YtlmdhkaplemjpaaGreatBkP
namespace Go.Proofs.YtlmdhkaplemjpaaGreat
open Go.RowKit Go.Lib
open Sh.Plain (KV put del Rise)
set_option linter.unusedVariables false
set_option linter.unusedSimpArgs false

theorem applyB_ok {b d : Bk} {x : Cg} (h : applyB b x = (d, 0)) : b.c.beq zc = false ∧ x.ix = b.ix + 1 ∧ (isPlB b x || isOnB b x || isSetB b x) = true ∧ b.ix ≠ top ∧ d = withB b x := by
  unfold applyB at h
  split at h
  · exact absurd (congrArg Prod.snd h) (show (3 : Int) ≠ 0 by decide)
  · next h0 =>
    split at h
    · exact absurd (congrArg Prod.snd h) (show (1 : Int) ≠ 0 by decide)
    · next h1 =>
      split at h
      · exact absurd (congrArg Prod.snd h) (show (5 : Int) ≠ 0 by decide)
      · next h2 =>
        refine ⟨by simpa using h0, ?_, ?_, fun e => h2 (.inr e), (congrArg Prod.fst h).symm⟩
        · exact Decidable.byContradiction fun e => h1 (.inl e)
        · cases e : (isPlB b x || isOnB b x || isSetB b x)
          · exact absurd (.inr e) h1
          · rfl
theorem applyB_as {b : Bk} {x : Cg} (h0 : b.c.beq zc = false) (h1 : x.ix = b.ix + 1) (h2 : (isPlB b x || isOnB b x || isSetB b x) = true) (h3 : ¬ (isPlB b x = true ∧ b.live.length = b.rm)) (h4 : b.ix ≠ top) : applyB b x = (withB b x, 0) := by
  unfold applyB
  rw [if_neg (by rw [h0]; decide), if_neg (fun h => h.elim (fun h => h h1) (fun h => by rw [h2] at h; cases h)), if_neg (fun h => h.elim h3 h4)]
theorem isPl_k {b : Bk} {x : Cg} (h : isPlB b x = true) : x.car = 0 ∧ x.k.st = 1 ∧ x.k.id = x.ix := by
  unfold isPlB at h
  rw [Bool.and_eq_true] at h
  obtain ⟨h1, h2⟩ := h
  have h1 : (newA b.c (plainK x.k) x.ix x.k.own x.k.born).2 = 0 := by simpa using h1
  obtain ⟨_, e, _⟩ := newA_k h1
  rw [e] at h2
  have h3 := Cg.beq_iff.1 h2
  refine ⟨by rw [h3], by rw [h3], ?_⟩
  have := congrArg (fun z => z.k.id) h3
  exact this
theorem get_wput_ne {rm : Nat} {k j : Int} {v : K} {l : List KV} (hr : Rise l) (h : j ≠ k) : Sh.Plain.get j (Sh.wput rm k v l) = Sh.Plain.get j l := by
  unfold Sh.wput
  split
  · rw [Sh.Plain.get_put hr, if_neg h]
  · rfl
theorem mem_del {k : Int} {l : List KV} {p : KV} (h : p ∈ del k l) : p ∈ l := (List.mem_filter.1 h).1
theorem mem_roomy {rm : Nat} {l : List KV} {p : KV} (h : p ∈ roomyL rm l) : p ∈ l := by
  unfold roomyL at h
  split at h
  · exact h
  · cases l with
    | nil => exact h
    | cons x l => exact mem_del h
/-- changes applied, one behind the other -/
def runB : Bk → List Cg → Option Bk
  | s, [] => some s
  | s, x :: xs => if (applyB s x).2 = 0 then runB (applyB s x).1 xs else none
theorem runB_snoc {b d : Bk} {x : Cg} (h : applyB b x = (d, 0)) : ∀ {s : Bk} {xs : List Cg}, runB s xs = some b → runB s (xs ++ [x]) = some d
  | s, [], hr => by
    have : s = b := by simpa [runB] using hr
    subst this
    show (if (applyB s x).2 = 0 then runB (applyB s x).1 [] else none) = some d
    rw [h]; rfl
  | s, y :: xs, hr => by
    unfold runB at hr
    show (if (applyB s y).2 = 0 then runB (applyB s y).1 (xs ++ [x]) else none) = some d
    split at hr
    · next e => rw [if_pos e]; exact runB_snoc h hr
    · cases hr
/-- what is known of a book, the changes that made it, and who ended -/
structure RPl (c : Cfg) (b : Bk) (xs : List Cg) (F : Int → Bool) : Prop where
  ok : b.Ok
  len : b.ix = (xs.length : Int)
  run : runB (newB c) xs = some b
  keys : ∀ p ∈ b.live, p.1 = p.2.id ∧ livesK p.2 = true ∧ 1 ≤ p.1 ∧ p.1 ≤ b.ix
  dn : ∀ p ∈ b.done, livesK p.2 = false
  fin : ∀ x, F x = true → 1 ≤ x ∧ x ≤ b.ix ∧ Sh.Plain.get x b.live = none
  room : b.c.beq zc = false → (b.rm : Int) = c.get 3
  okc : b.c.beq zc = false → okc b.c = true
theorem RPl.new (c : Cfg) : RPl c (newB c) [] (fun _ => false) := by
  have hz : ∀ {p : Prop}, zb.c.beq zc = false → p := fun h => absurd (h.symm.trans (Cfg.beq_self zc)) (by decide)
  refine ⟨(Pl.new c).ok, ?_, rfl, ?_, ?_, fun x h => (by cases h), ?_, ?_⟩
  all_goals
    unfold newB
    cases h : YtlmdhkaplemjpaaGreat.okc c
    · rw [if_neg (by decide)]
      first | rfl | exact hz | (intro p hp; cases hp)
    · rw [if_pos rfl]
      obtain ⟨h3, h1⟩ := cfg_nums h
      first | rfl | (intro p hp; cases hp) | (intro _; show (((c.get 3).toNat : Nat) : Int) = c.get 3; omega) | (intro _; exact h)
theorem RPl.step {c : Cfg} {b d : Bk} {xs : List Cg} {F F' : Int → Bool} {x : Cg} (h : RPl c b xs F) (hr : Rise b.live) (hj : xs.length < 1000) (ha : applyB b x = (d, 0)) (hF : ∀ z, F' z = (F z || (decide (z = x.k.id) && (decide (x.k.id ≠ 0) && !livesK x.k)))) :
    RPl c d (xs ++ [x]) F' ∧ x.ix = b.ix + 1 ∧ d.ix = b.ix + 1 ∧ (x.k.id ≠ 0 → F x.k.id = false) ∧ b.c.beq zc = false ∧ d.c = b.c ∧ 0 ≤ x.k.id ∧ x.k.id ≤ b.ix + 1 := by
  obtain ⟨h0, hx, hs, ht, rfl⟩ := applyB_ok ha
  have hi := h.ok.ix
  have hl := h.len
  have htop : top = 1073741824 := rfl
  have hrun := runB_snoc ha h.run
  have hxl : ((xs ++ [x]).length : Int) = b.ix + 1 := by rw [List.length_append]; simp; omega
  rw [Bool.or_eq_true, Bool.or_eq_true] at hs
  -- a call that is, or is new
  have call : x.car = 0 → 1 ≤ x.k.id → x.k.id ≤ b.ix + 1 → F x.k.id = false →
      RPl c (withB b x) (xs ++ [x]) F' ∧ x.ix = b.ix + 1 ∧ (withB b x).ix = b.ix + 1 ∧ (x.k.id ≠ 0 → F x.k.id = false) ∧ b.c.beq zc = false ∧ (withB b x).c = b.c ∧ 0 ≤ x.k.id ∧ x.k.id ≤ b.ix + 1 := by
    intro hc i1 i2 hf
    cases hk : livesK x.k
    · rw [withB_done hc hk] at hrun ⊢
      refine ⟨⟨⟨h.ok.pos, by show 0 ≤ x.ix ∧ x.ix ≤ top; omega⟩, by rw [hxl]; exact hx, hrun, fun p hp => ?_, fun p hp => ?_, fun z hz => ?_, h.room, h.okc⟩, hx, hx, fun _ => hf, h0, rfl, by omega, i2⟩
      · obtain ⟨a1, a2, a3, a4⟩ := h.keys p (mem_del hp)
        exact ⟨a1, a2, a3, by show p.1 ≤ x.ix; omega⟩
      · rcases mem_wput hp with rfl | hp
        · exact hk
        · exact h.dn p (mem_roomy hp)
      · rw [hF, Bool.or_eq_true] at hz
        rcases hz with hz | hz
        · obtain ⟨z1, z2, z3⟩ := h.fin z hz
          refine ⟨z1, by show z ≤ x.ix; omega, ?_⟩
          show Sh.Plain.get z (del x.k.id b.live) = none
          rw [Sh.Plain.get_del]
          split
          · rfl
          · exact z3
        · rw [Bool.and_eq_true] at hz
          have e : z = x.k.id := of_decide_eq_true hz.1
          subst e
          refine ⟨i1, by show x.k.id ≤ x.ix; omega, ?_⟩
          show Sh.Plain.get x.k.id (del x.k.id b.live) = none
          rw [Sh.Plain.get_del, if_pos rfl]
    · rw [withB_live hc hk] at hrun ⊢
      refine ⟨⟨⟨h.ok.pos, by show 0 ≤ x.ix ∧ x.ix ≤ top; omega⟩, by rw [hxl]; exact hx, hrun, fun p hp => ?_, h.dn, fun z hz => ?_, h.room, h.okc⟩, hx, hx, fun _ => hf, h0, rfl, by omega, i2⟩
      · rcases mem_wput hp with rfl | hp
        · exact ⟨rfl, hk, i1, by show x.k.id ≤ x.ix; omega⟩
        · obtain ⟨a1, a2, a3, a4⟩ := h.keys p hp
          exact ⟨a1, a2, a3, by show p.1 ≤ x.ix; omega⟩
      · rw [hF, hk, Bool.not_true, Bool.and_false, Bool.and_false, Bool.or_false] at hz
        obtain ⟨z1, z2, z3⟩ := h.fin z hz
        refine ⟨z1, by show z ≤ x.ix; omega, ?_⟩
        show Sh.Plain.get z (Sh.wput b.rm x.k.id x.k b.live) = none
        rw [get_wput_ne hr (fun e => by rw [e, hf] at hz; cases hz)]
        exact z3
  rcases hs with (hs | hs) | hs
  · obtain ⟨h1, h2, h3⟩ := isPl_k hs
    refine call h1 (by omega) (by omega) ?_
    cases e : F x.k.id
    · rfl
    · have := (h.fin _ e).2.1; omega
  · have hc := isOn_car hs
    unfold isOnB at hs
    cases hg : Sh.Plain.get x.k.id b.live with
    | none => rw [hg] at hs; cases hs
    | some a =>
      obtain ⟨a1, a2, a3, a4⟩ := h.keys _ (Sh.Plain.get_mem hg)
      refine call hc a3 (by show x.k.id ≤ b.ix + 1; exact Int.le_trans a4 (by omega)) ?_
      cases e : F x.k.id
      · rfl
      · have := (h.fin _ e).2.2; rw [hg] at this; cases this
  · have hc := isSet_car hs
    unfold isSetB at hs
    rw [Bool.and_eq_true] at hs
    have hk : x.k = zk := K.beq_iff.1 hs.1
    have hid : x.k.id = 0 := by rw [hk]; rfl
    rw [withB_car (by omega)] at hrun ⊢
    refine ⟨⟨⟨h.ok.pos, by show 0 ≤ x.ix ∧ x.ix ≤ top; omega⟩, by rw [hxl]; exact hx, hrun, fun p hp => ?_, h.dn, fun z hz => ?_, h.room, h.okc⟩, hx, hx, fun e => absurd hid e, h0, rfl, by omega, by omega⟩
    · obtain ⟨a1, a2, a3, a4⟩ := h.keys p hp
      exact ⟨a1, a2, a3, by show p.1 ≤ x.ix; omega⟩
    · rw [hF, hid] at hz
      simp at hz
      obtain ⟨z1, z2, z3⟩ := h.fin z hz
      exact ⟨z1, by show z ≤ x.ix; omega, z3⟩
theorem ask_plain {c : Cfg} {x : K} (h : askK c x = true) : plainK x = x := by
  unfold askK at h
  split at h
  · unfold ask1 at h; simp only [Bool.and_eq_true] at h; have := K.beq_iff.1 h.1.1; rw [this]; rfl
  · split at h
    · unfold ask2 at h; simp only [Bool.and_eq_true] at h; have := K.beq_iff.1 h.1.1; rw [this]; rfl
    · split at h
      · unfold ask3 at h; simp only [Bool.and_eq_true] at h; have := K.beq_iff.1 h.1.1; rw [this]; rfl
      · split at h
        · unfold ask4 at h; simp only [Bool.and_eq_true] at h; have := K.beq_iff.1 h.1.1.1; rw [this]; rfl
        · cases h
theorem newA_ask {c : Cfg} {x : K} {i n m : Int} (h : (newA c x i n m).2 = 0) : askK c x = true := by
  by_cases h0 : chkK c x = 0
  · unfold chkK at h0
    split at h0
    · split at h0
      · next h => exact h
      · exact absurd h0 (by decide)
    · exact absurd h0 (by decide)
  · rw [newA_no h0] at h; exact absurd h h0
theorem place_apply {b d : Bk} {x : K} {n m : Int} {g : Cg} (h : placeB b x n m = (d, g, 0)) : applyB b g = (d, 0) := by
  have h2 : (placeB b x n m).2.2 = 0 := by rw [h]
  obtain ⟨h3, h4, h5, h6⟩ := placeB_ok h2
  have hn : (newA b.c x (b.ix + 1) n m).2 = 0 := by
    by_cases e : (newA b.c x (b.ix + 1) n m).2 = 0
    · exact e
    · have : placeB b x n m = (zb, zg, (newA b.c x (b.ix + 1) n m).2) := if_pos e
      rw [this] at h2; exact absurd h2 e
  obtain ⟨_, e1, _⟩ := newA_k hn
  have hp : plainK x = x := ask_plain (newA_ask hn)
  rw [h6] at h
  injection h with hd hg
  injection hg with hg _
  subst hg
  subst hd
  have hpl : isPlB b ⟨b.ix + 1, { x with id := b.ix + 1, own := n, born := m, st := 1 }, 0, 0⟩ = true := by
    unfold isPlB
    have e2 : plainK ({ x with id := b.ix + 1, own := n, born := m, st := 1 } : K) = x := by
      show plainK x = x
      exact hp
    show ((newA b.c (plainK ({ x with id := b.ix + 1, own := n, born := m, st := 1 } : K)) (b.ix + 1) n m).2 == 0 && _) = true
    rw [e2, hn, e1]
    rw [Bool.and_eq_true]
    exact ⟨by decide, Cg.beq_self _⟩
  rw [applyB_as (nil_of_bad h3) rfl (by rw [hpl]; rfl) (fun e => h5 e.2) h4]
  rw [withB_live rfl (livesK_of (.inl rfl))]
theorem seek_mem {k : Int} {x : K} : ∀ {l : List KV}, seek k l = some x → ∃ p ∈ l, p.2 = x
  | [], h => by simp [seek] at h
  | y :: l, h => by
    unfold seek at h
    by_cases e : y.2.id = k
    · rw [List.find?_cons_of_pos (by simpa using e)] at h
      exact ⟨y, List.mem_cons_self .., by simpa using h⟩
    · rw [List.find?_cons_of_neg (by simpa using e)] at h
      obtain ⟨p, hp, h2⟩ := seek_mem (l := l) (k := k) (x := x) h
      exact ⟨p, List.mem_cons_of_mem _ hp, h2⟩
theorem cancel_apply {c : Cfg} {b d : Bk} {xs : List Cg} {F : Int → Bool} {i n : Int} {g : Cg} (hR : RPl c b xs F) (h : cancelB b i n = (d, g, 0)) : applyB b g = (d, 0) := by
  have bad : ∀ {e : Int}, ((zb, zg, e) : Bk × Cg × Int) = (d, g, 0) → e = 0 := fun h => congrArg (fun z => z.2.2) h
  unfold cancelB at h
  split at h
  · exact absurd (bad h) (by decide)
  · next h0 =>
    have h0 : b.c.beq zc = false := by simpa using h0
    split at h
    · exact absurd (bad h) (by decide)
    · next x hf =>
      split at h
      · exact absurd (bad h) (by decide)
      · split at h
        · next e => exact absurd (bad h) e
        · next e =>
          have hs : x.st = 1 ∨ x.st = 2 := by
            by_cases hs : x.st = 1 ∨ x.st = 2
            · exact hs
            · have : cancelK x = (zk, 7) := if_neg hs
              rw [this] at e; exact absurd (show (7 : Int) ≠ 0 by decide) e
          have hc : cancelK x = ({ x with st := 5 }, 0) := if_pos hs
          rw [hc] at h
          have hg : Sh.Plain.get i b.live = some x := by
            unfold findB at hf
            cases hg : Sh.Plain.get i b.live with
            | some y => rw [hg] at hf; exact hf
            | none =>
              rw [hg] at hf
              obtain ⟨p, hp, rfl⟩ := seek_mem hf
              have := hR.dn p hp
              rw [livesK_of (by rcases hs with h | h <;> simp [h])] at this
              cases this
          obtain ⟨a1, a2, a3, a4⟩ := hR.keys _ (Sh.Plain.get_mem hg)
          have a1 : i = x.id := a1
          have h2 : (changedB b ⟨0, { x with st := 5 }, 0, 0⟩).2.2 = 0 := by rw [h]
          obtain ⟨h4, h6⟩ := changedB_ok h2
          rw [h6] at h
          injection h with hd hg'
          injection hg' with hg' _
          subst hg'
          subst hd
          have hon : isOnB b ⟨b.ix + 1, { x with st := 5 }, 0, 0⟩ = true := by
            unfold isOnB
            show (match Sh.Plain.get x.id b.live with | none => false | some a => _) = true
            rw [show Sh.Plain.get x.id b.live = some x by rw [← a1]; exact hg]
            show (Cg.beq _ _ && mayK b.c x { x with st := 5 }) = true
            rw [Bool.and_eq_true]
            refine ⟨Cg.beq_self _, may_hit (hR.okc h0) (j := 5) (by decide) ?_⟩
            unfold hit
            have e5 : stepK b.c x { x with st := 5 } 5 = cancelK x := rfl
            rw [e5, hc, Bool.and_eq_true]
            exact ⟨decide_eq_true rfl, K.beq_self _⟩
          have hnp : isPlB b ⟨b.ix + 1, { x with st := 5 }, 0, 0⟩ = false := by
            cases e : isPlB b ⟨b.ix + 1, { x with st := 5 }, 0, 0⟩
            · rfl
            · exact absurd (isPl_k e).2.1 (show ¬ (5 : Int) = 1 by decide)
          exact applyB_as h0 rfl (by rw [hon]; simp) (fun e => by rw [hnp] at e; exact absurd e.1 (by decide)) h4
theorem set_apply {b d : Bk} {n m : Int} {g : Cg} (h : setB b n m = (d, g, 0)) : applyB b g = (d, 0) := by
  have bad : ∀ {e : Int}, ((zb, zg, e) : Bk × Cg × Int) = (d, g, 0) → e = 0 := fun h => congrArg (fun z => z.2.2) h
  unfold setB at h
  split at h
  · exact absurd (bad h) (by decide)
  · next h0 =>
    have h0 : b.c.beq zc = false := by simpa using h0
    split at h
    · exact absurd (bad h) (by decide)
    · next hh =>
      have hh : haveB b n m = true := by simpa using hh
      have h2 : (changedB b ⟨0, zk, n, m⟩).2.2 = 0 := by rw [h]
      obtain ⟨h4, h6⟩ := changedB_ok h2
      rw [h6] at h
      injection h with hd hg'
      injection hg' with hg' _
      subst hg'
      subst hd
      have hst : isSetB b ⟨b.ix + 1, zk, n, m⟩ = true := by
        unfold isSetB
        rw [Bool.and_eq_true]
        exact ⟨K.beq_self _, hh⟩
      have hnp : isPlB b ⟨b.ix + 1, zk, n, m⟩ = false := by
        cases e : isPlB b ⟨b.ix + 1, zk, n, m⟩
        · rfl
        · have h1 : n = 0 := (isPl_k e).1
          have := haveB_car hh
          omega
      exact applyB_as h0 rfl (by rw [hst]; simp) (fun e => by rw [hnp] at e; exact absurd e.1 (by decide)) h4
/-- beside an error all is nothing -/
theorem changedB_err {b : Bk} {x : Cg} (h : (changedB b x).2.2 ≠ 0) : (changedB b x).1 = zb ∧ (changedB b x).2.1 = zg := by
  unfold changedB at h ⊢
  split
  · exact ⟨rfl, rfl⟩
  · next e => rw [if_neg e] at h; exact absurd rfl h
theorem placeB_err {b : Bk} {x : K} {n m : Int} (h : (placeB b x n m).2.2 ≠ 0) : (placeB b x n m).1 = zb ∧ (placeB b x n m).2.1 = zg := by
  unfold placeB at h ⊢
  split
  · exact ⟨rfl, rfl⟩
  · next e =>
    rw [if_neg e] at h
    split
    · exact ⟨rfl, rfl⟩
    · next e2 => rw [if_neg e2] at h; exact changedB_err h
theorem cancelB_err {b : Bk} {i n : Int} (h : (cancelB b i n).2.2 ≠ 0) : (cancelB b i n).1 = zb ∧ (cancelB b i n).2.1 = zg := by
  unfold cancelB at h ⊢
  split
  · exact ⟨rfl, rfl⟩
  · next e =>
    rw [if_neg e] at h
    split
    · exact ⟨rfl, rfl⟩
    · next x hf =>
      rw [hf] at h
      have h : (if x.own ≠ n then (zb, zg, (8 : Int)) else if (cancelK x).2 ≠ 0 then (zb, zg, (cancelK x).2) else changedB b ⟨0, (cancelK x).1, 0, 0⟩).2.2 ≠ 0 := h
      split
      · exact ⟨rfl, rfl⟩
      · next e2 =>
        rw [if_neg e2] at h
        split
        · exact ⟨rfl, rfl⟩
        · next e3 => rw [if_neg e3] at h; exact changedB_err h
theorem setB_err {b : Bk} {n m : Int} (h : (setB b n m).2.2 ≠ 0) : (setB b n m).1 = zb ∧ (setB b n m).2.1 = zg := by
  unfold setB at h ⊢
  split
  · exact ⟨rfl, rfl⟩
  · next e =>
    rw [if_neg e] at h
    split
    · exact ⟨rfl, rfl⟩
    · next e2 => rw [if_neg e2] at h; exact changedB_err h
theorem applyB_err {b : Bk} {x : Cg} (h : (applyB b x).2 ≠ 0) : (applyB b x).1 = zb := by
  unfold applyB at h ⊢
  split
  · rfl
  · next e =>
    rw [if_neg e] at h
    split
    · rfl
    · next e2 =>
      rw [if_neg e2] at h
      split
      · rfl
      · next e3 => rw [if_neg e3] at h; exact absurd rfl h
end Go.Proofs.YtlmdhkaplemjpaaGreat
