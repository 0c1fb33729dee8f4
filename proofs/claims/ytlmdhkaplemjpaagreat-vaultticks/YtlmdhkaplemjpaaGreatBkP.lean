/- What a book is behind places alone; two cancels in either order. No Go text. -/
import Derived.Test.YtlmdhkaplemjpaaGreatBkN
import Derived.Test.YtlmdhkaplemjpaaGreatOrder4
namespace Go.Proofs.YtlmdhkaplemjpaaGreat
open Go.RowKit Go.Lib
open Sh.Plain (KV get put del Rise)
set_option linter.unusedVariables false
set_option linter.unusedSimpArgs false

theorem mem_put {k : Int} {v : K} : ∀ {l : List KV} {p : KV}, p ∈ put k v l → p = (k, v) ∨ p ∈ l
  | [], p, h => by simp [put] at h; exact .inl h
  | x :: l, p, h => by
    unfold put at h
    split at h
    · rcases List.mem_cons.1 h with rfl | h
      · exact .inr (List.mem_cons_self ..)
      · rcases mem_put h with h | h
        · exact .inl h
        · exact .inr (List.mem_cons_of_mem _ h)
    · split at h
      · rcases List.mem_cons.1 h with h | h
        · exact .inl h
        · exact .inr (List.mem_cons_of_mem _ h)
      · rcases List.mem_cons.1 h with h | h
        · exact .inl h
        · exact .inr h
theorem mem_wput {rm : Nat} {k : Int} {v : K} {l : List KV} {p : KV} (h : p ∈ Sh.wput rm k v l) : p = (k, v) ∨ p ∈ l := by
  unfold Sh.wput at h
  split at h
  · exact mem_put h
  · exact .inr h
theorem get_del_ne {k j : Int} (h : k ≠ j) : ∀ {l : List KV}, get k (del j l) = get k l
  | [] => rfl
  | x :: l => by
    unfold del
    by_cases e : x.1 = j
    · rw [List.filter_cons_of_neg (by simpa using e)]
      have : get k (x :: l) = get k l := if_neg (fun e2 => h (e2.symm.trans e))
      rw [this]
      exact get_del_ne h
    · rw [List.filter_cons_of_pos (by simpa using e)]
      show (if x.1 = k then some x.2 else get k (del j l)) = (if x.1 = k then some x.2 else get k l)
      rw [get_del_ne h]
theorem del_comm (j k : Int) (l : List KV) : del j (del k l) = del k (del j l) := by
  unfold del
  rw [List.filter_filter, List.filter_filter]
  congr 1
  funext x
  rw [Bool.and_comm]
theorem livesK_of {k : K} (h : k.st = 1 ∨ k.st = 2 ∨ k.st = 3) : livesK k = true := decide_eq_true h
theorem livesK_not {k : K} (h : ¬ (k.st = 1 ∨ k.st = 2 ∨ k.st = 3)) : livesK k = false := decide_eq_false h
/-- what New of a call made -/
theorem newA_k {c : Cfg} {x : K} {i n m : Int} (h : (newA c x i n m).2 = 0) : okc c = true ∧ (newA c x i n m).1 = { x with id := i, own := n, born := m, st := 1 } ∧ 1 ≤ i ∧ i ≤ top := by
  have hok := newA_okc h
  by_cases h0 : chkK c x = 0
  · by_cases h2 : i < 1 ∨ n < 1 ∨ m < 0 ∨ top < max (max i n) m
    · rw [newA_arg h0 h2] at h; exact absurd h (by decide)
    · rw [newA_ok h0 h2]
      refine ⟨hok, rfl, by omega, ?_⟩
      have : ¬ top < max (max i n) m := fun e => h2 (.inr (.inr (.inr e)))
      omega
  · rw [newA_no h0] at h; exact absurd h h0
/-- a change that was made: no more than 2^30 -/
theorem changedB_ok {b : Bk} {x : Cg} (h : (changedB b x).2.2 = 0) : b.ix ≠ top ∧ changedB b x = (withB b { x with ix := b.ix + 1 }, { x with ix := b.ix + 1 }, 0) := by
  by_cases e : b.ix = top
  · have : changedB b x = (zb, zg, 5) := if_pos e
    rw [this] at h; exact absurd h (by decide)
  · exact ⟨e, if_neg e⟩
theorem changedB_as {b : Bk} {x : Cg} (e : b.ix ≠ top) : changedB b x = (withB b { x with ix := b.ix + 1 }, { x with ix := b.ix + 1 }, 0) := if_neg e
theorem placeB_ok {b : Bk} {x : K} {n m : Int} (h : (placeB b x n m).2.2 = 0) : okc b.c = true ∧ b.ix ≠ top ∧ b.live.length ≠ b.rm ∧ placeB b x n m = ({ b with ix := b.ix + 1, live := Sh.wput b.rm (b.ix + 1) { x with id := b.ix + 1, own := n, born := m, st := 1 } b.live }, ⟨b.ix + 1, { x with id := b.ix + 1, own := n, born := m, st := 1 }, 0, 0⟩, 0) := by
  by_cases h0 : (newA b.c x (b.ix + 1) n m).2 = 0
  · obtain ⟨h1, h2, h3⟩ := newA_k h0
    by_cases hf : b.live.length = b.rm
    · have : placeB b x n m = (zb, zg, 5) := by unfold placeB; rw [if_neg (by rw [h0]; decide), if_pos hf]
      rw [this] at h; exact absurd h (by decide)
    · have e : placeB b x n m = changedB b ⟨0, (newA b.c x (b.ix + 1) n m).1, 0, 0⟩ := by unfold placeB; rw [if_neg (by rw [h0]; decide), if_neg hf]
      rw [e] at h
      obtain ⟨hi, e2⟩ := changedB_ok h
      refine ⟨h1, hi, hf, ?_⟩
      rw [e, e2, h2, withB_live rfl (livesK_of (.inl rfl))]
  · have : placeB b x n m = (zb, zg, (newA b.c x (b.ix + 1) n m).2) := if_pos h0
    rw [this] at h; exact absurd h h0
/-- behind places alone -/
structure Pl (s : Bk) (j : Nat) : Prop where
  ok : s.Ok
  ixj : s.ix ≤ j
  done : s.done = []
  keys : ∀ p ∈ s.live, p.1 = p.2.id ∧ p.2.st = 1
  mode : s.c.beq zc = false → modeB s 1 ≠ 0
  nil : s.c.beq zc = true → s.live = []
theorem zb_ok : zb.Ok := ⟨fun h => absurd (h.symm.trans (Cfg.beq_self zc)) (by decide), by decide⟩
theorem cfg_nums {c : Cfg} (h : okc c = true) : (1 ≤ c.get 3 ∧ c.get 3 ≤ 64) ∧ (1 ≤ c.get 1 ∧ c.get 1 ≤ 4) := by
  have h3 : lo 3 ≤ c.get 3 ∧ c.get 3 ≤ hi 3 := ok_at h (by decide)
  have h1 : lo 1 ≤ c.get 1 ∧ c.get 1 ≤ hi 1 := ok_at h (by decide)
  exact ⟨h3, h1⟩
theorem newBk_ok {c : Cfg} (j : Nat) (h : okc c = true) : (newBk c j).Ok := by
  obtain ⟨h3, h1⟩ := cfg_nums h
  exact ⟨fun _ => by show 0 < (c.get 3).toNat; omega, by show (0 : Int) ≤ 0 ∧ (0 : Int) ≤ top; decide⟩
theorem Pl.new (c : Cfg) : Pl (newB c) 0 := by
  unfold newB
  cases h : okc c
  · rw [if_neg (by decide)]
    exact ⟨zb_ok, by decide, rfl, by simp [zb], fun h => absurd (h.symm.trans (Cfg.beq_self zc)) (by decide), fun _ => rfl⟩
  · rw [if_pos rfl]
    obtain ⟨h3, h1⟩ := cfg_nums h
    refine ⟨newBk_ok _ h, by show (0 : Int) ≤ 0; omega, rfl, by simp [newBk], fun _ => ?_, fun _ => rfl⟩
    have e : modeB (newBk c (c.get 1).toNat) 1 = (modesTo (c.get 1).toNat).getD 0 0 := rfl
    rw [e]
    obtain ⟨n, hn⟩ : ∃ n, (c.get 1).toNat = n + 1 := ⟨(c.get 1).toNat - 1, by omega⟩
    rw [hn]
    simp [modesTo]
theorem Pl.mono {s : Bk} {i j : Nat} (h : Pl s i) (hij : i ≤ j) : Pl s j := ⟨h.ok, by have := h.ixj; omega, h.done, h.keys, h.mode, h.nil⟩
theorem Pl.place {s : Bk} {j : Nat} {x : K} {n m : Int} (h : Pl s j) (hj : j < 1000) (h0 : (placeB s x n m).2.2 = 0) : Pl (placeB s x n m).1 (j + 1) := by
  obtain ⟨h1, h2, h3, h4⟩ := placeB_ok h0
  rw [h4]
  have hi := h.ok.ix
  have hj2 := h.ixj
  refine ⟨⟨h.ok.pos, ⟨by show 0 ≤ s.ix + 1; omega, by show s.ix + 1 ≤ top; unfold top at hi h2 ⊢; omega⟩⟩, by show s.ix + 1 ≤ ((j + 1 : Nat) : Int); omega, h.done, fun p hp => ?_, h.mode, fun e => ?_⟩
  · rcases mem_wput hp with rfl | hp
    · exact ⟨rfl, rfl⟩
    · exact h.keys p hp
  · have : s.c.beq zc = false := nil_of_bad h1
    have e : s.c.beq zc = true := e
    rw [this] at e; cases e
/-- who waits is cancelled -/
theorem cancel_step {t : Bk} {i : Int} {x : K} (hn : t.c.beq zc = false) (hf : findB t i = some x) (hi : x.id = i) (hs : x.st = 1) (ht : t.ix ≠ top) : ∃ D g, cancelB t i x.own = ({ t with ix := t.ix + 1, live := del i t.live, done := D }, g, 0) := by
  have hc : cancelK x = ({ x with st := 5 }, 0) := if_pos (.inl hs)
  have e : cancelB t i x.own = changedB t ⟨0, { x with st := 5 }, 0, 0⟩ := by
    unfold cancelB
    rw [if_neg (by rw [hn]; decide), hf]
    show (if x.own ≠ x.own then _ else _) = _
    rw [if_neg (by simp), hc, if_neg (fun h => h rfl)]
  rw [e, changedB_as ht, withB_done rfl (livesK_not (show ¬ ((5 : Int) = 1 ∨ (5 : Int) = 2 ∨ (5 : Int) = 3) by decide))]
  subst hi
  exact ⟨_, _, rfl⟩
theorem set_step {t : Bk} {md : Int} (hn : t.c.beq zc = false) (hm : modeB t 1 ≠ 0) (h12 : md = 1 ∨ md = 2) (ht : t.ix ≠ top) : ∃ g, setB t 1 md = ({ t with ix := t.ix + 1, m := t.m.set 0 md, ml := by rw [List.length_set]; exact t.ml }, g, 0) := by
  have hh : haveB t 1 md = true := by
    unfold haveB
    rw [Bool.and_eq_true]
    refine ⟨by simpa using hm, ?_⟩
    rcases h12 with rfl | rfl <;> decide
  have e : setB t 1 md = changedB t ⟨0, zk, 1, md⟩ := by
    unfold setB
    rw [if_neg (by rw [hn]; decide), if_neg (by rw [hh]; decide)]
  rw [e, changedB_as ht, withB_car (show (1 : Int) ≠ 0 by decide)]
  exact ⟨_, rfl⟩
structure Two6 (s : Bk) (a b md : Int) (x y : K) (p q r u v w : Bk) (gp gq gr gu gv gw : Cg) : Prop where
  e1 : cancelB s a x.own = (p, gp, 0)
  e2 : setB p 1 md = (q, gq, 0)
  e3 : cancelB q b y.own = (r, gr, 0)
  e4 : cancelB s b y.own = (u, gu, 0)
  e5 : cancelB u a x.own = (v, gv, 0)
  e6 : setB v 1 md = (w, gw, 0)
  ok : p.Ok ∧ q.Ok ∧ u.Ok ∧ v.Ok
  live : r.live = w.live
  ix : r.ix = w.ix
  mode : modeB r 1 = modeB w 1
  len : (r.live.length : Int) = (s.live.length : Int) - 2
theorem findB_live {s : Bk} {i : Int} {x : K} (hd : s.done = []) (h : findB s i = some x) : get i s.live = some x := by
  unfold findB at h
  cases hg : get i s.live with
  | some y => rw [hg] at h; exact h
  | none => rw [hg, hd] at h; simp [seek] at h
theorem mode_set {t : Bk} {md : Int} : modeB { t with ix := t.ix + 1, m := t.m.set 0 md, ml := by rw [List.length_set]; exact t.ml } 1 = md := by
  have e : modeB { t with ix := t.ix + 1, m := t.m.set 0 md, ml := by rw [List.length_set]; exact t.ml } 1 = (t.m.set 0 md).getD 0 0 := rfl
  rw [e]
  have := t.ml
  cases hm : t.m with
  | nil => rw [hm] at this; cases this
  | cons z l => rfl
theorem two6 {s : Bk} {j : Nat} {a b md : Int} {x y : K} (h : Pl s j) (hj : j < 1000) (hr : Rise s.live) (hx : findB s a = some x) (hy : findB s b = some y) (hab : a ≠ b) (h12 : md = 1 ∨ md = 2) :
    ∃ p q r u v w gp gq gr gu gv gw, Two6 s a b md x y p q r u v w gp gq gr gu gv gw := by
  have gx := findB_live h.done hx
  have gy := findB_live h.done hy
  obtain ⟨kx, sx⟩ := h.keys _ (Sh.Plain.get_mem gx)
  obtain ⟨ky, sy⟩ := h.keys _ (Sh.Plain.get_mem gy)
  have hn : s.c.beq zc = false := by
    cases e : s.c.beq zc
    · rfl
    · rw [h.nil e] at gx; cases gx
  have hi := h.ok.ix
  have hij := h.ixj
  have hm := h.mode hn
  have hp := h.ok.pos hn
  have htop : top = 1073741824 := rfl
  obtain ⟨D1, gp, e1⟩ := cancel_step hn hx kx.symm sx (by omega)
  obtain ⟨gq, e2⟩ := set_step (t := { s with ix := s.ix + 1, live := del a s.live, done := D1 }) (md := md) hn hm h12 (by show s.ix + 1 ≠ top; omega)
  have f3 : findB ({ s with ix := s.ix + 1 + 1, live := del a s.live, done := D1, m := s.m.set 0 md, ml := by rw [List.length_set]; exact s.ml } : Bk) b = some y := by
    unfold findB
    have : get b (del a s.live) = some y := by rw [get_del_ne (Ne.symm hab)]; exact gy
    show (match get b (del a s.live) with | some x => some x | none => _) = _
    rw [this]
  obtain ⟨D3, gr, e3⟩ := cancel_step (t := { s with ix := s.ix + 1 + 1, live := del a s.live, done := D1, m := s.m.set 0 md, ml := by rw [List.length_set]; exact s.ml }) hn f3 ky.symm sy (by show s.ix + 1 + 1 ≠ top; omega)
  obtain ⟨D4, gu, e4⟩ := cancel_step hn hy ky.symm sy (by omega)
  have f5 : findB ({ s with ix := s.ix + 1, live := del b s.live, done := D4 } : Bk) a = some x := by
    unfold findB
    have : get a (del b s.live) = some x := by rw [get_del_ne hab]; exact gx
    show (match get a (del b s.live) with | some x => some x | none => _) = _
    rw [this]
  obtain ⟨D5, gv, e5⟩ := cancel_step (t := { s with ix := s.ix + 1, live := del b s.live, done := D4 }) hn f5 kx.symm sx (by show s.ix + 1 ≠ top; omega)
  obtain ⟨gw, e6⟩ := set_step (t := { s with ix := s.ix + 1 + 1, live := del a (del b s.live), done := D5 }) (md := md) hn hm h12 (by show s.ix + 1 + 1 ≠ top; omega)
  refine ⟨_, _, _, _, _, _, gp, gq, gr, gu, gv, gw, ⟨e1, e2, e3, e4, e5, e6, ⟨⟨fun _ => hp, ?_⟩, ⟨fun _ => hp, ?_⟩, ⟨fun _ => hp, ?_⟩, ⟨fun _ => hp, ?_⟩⟩, ?_, rfl, ?_, ?_⟩⟩
  · show 0 ≤ s.ix + 1 ∧ s.ix + 1 ≤ top; omega
  · show 0 ≤ s.ix + 1 + 1 ∧ s.ix + 1 + 1 ≤ top; omega
  · show 0 ≤ s.ix + 1 ∧ s.ix + 1 ≤ top; omega
  · show 0 ≤ s.ix + 1 + 1 ∧ s.ix + 1 + 1 ≤ top; omega
  · exact del_comm b a s.live
  · have a1 := mode_set (t := { s with ix := s.ix + 1, live := del a s.live, done := D1 }) (md := md)
    have a2 := mode_set (t := { s with ix := s.ix + 1 + 1, live := del a (del b s.live), done := D5 }) (md := md)
    exact Eq.trans a1 a2.symm
  · show ((del b (del a s.live)).length : Int) = (s.live.length : Int) - 2
    have l1 := Sh.Plain.del_length (k := a) hr
    rw [gx] at l1
    have l2 := Sh.Plain.del_length (k := b) (l := del a s.live) hr.del
    rw [get_del_ne (Ne.symm hab), gy] at l2
    simp only [Option.isSome_some, if_true] at l1 l2
    have p1 : 0 < s.live.length := List.length_pos_of_mem (Sh.Plain.get_mem gx)
    have g2 : get b (del a s.live) = some y := by rw [get_del_ne (Ne.symm hab)]; exact gy
    have p2 : 0 < (del a s.live).length := List.length_pos_of_mem (Sh.Plain.get_mem g2)
    omega
end Go.Proofs.YtlmdhkaplemjpaaGreat
