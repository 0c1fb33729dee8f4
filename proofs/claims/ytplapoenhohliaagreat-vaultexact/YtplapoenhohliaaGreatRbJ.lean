import Derived.Test.YtplapoenhohliaaGreatRbG
import Derived.Test.YtplapoenhohliaaGreatBkR
namespace Go.Proofs.YtplapoenhohliaaGreat
open Go.RowKit Go.Lib
open Sh.Plain (KV get put del Rise)
set_option linter.unusedVariables false
set_option linter.unusedSimpArgs false
structure Rel (b : Bk) (u : U) : Prop where
 c : b.c = u.c
 ix : b.ix = u.ix
 live : b.live.map (·.2) = u.live
 done : b.done.map (·.2) = u.done
 m : b.m = u.m
abbrev Z18 : Array Value := #[.int .i64 0, .int .i64 0, .int .i64 0, .int .i64 0, .int .i64 0, .int .i64 0, .int .i64 0, .int .i64 0, .int .i64 0, .int .i64 0, .int .i64 0, .int .i64 0, .int .i64 0, .int .i64 0, .int .i64 0, .int .i64 0, .int .i64 0, .int .u32 0]
end Go.Proofs.YtplapoenhohliaaGreat
namespace Go.Proofs.YtplapoenhohliaaGreat
open Go.RowKit Go.Lib
open Sh.Plain (KV get put del Rise)
set_option linter.unusedVariables false
set_option linter.unusedSimpArgs false
def Ky (l : List KV) : Prop := ∀ p ∈ l, p.1 = p.2.id
theorem Ky.tail {x : KV} {l : List KV} (h : Ky (x :: l)) : Ky l := fun p hp => h p (List.mem_cons_of_mem _ hp)
theorem get_seekK {k : Int} : ∀ {l : List KV}, Ky l → get k l = seekK k (l.map (·.2))
 | [], _ => rfl
 | x :: l, h => by
  have hx := h x (List.mem_cons_self ..)
  have ih := get_seekK (k := k) h.tail
  show (if x.1 = k then some x.2 else get k l) = List.find? _ (x.2 :: l.map (·.2))
  by_cases e : x.1 = k
  ·rw [if_pos e, List.find?_cons_of_pos (by rw [← hx]; simpa using e)]
  ·rw [if_neg e, List.find?_cons_of_neg (by rw [← hx]; simpa using e)]
   exact ih
theorem flat_id {k : Int} {f : K → List K} (hf : ∀ y, y.id ≠ k → f y = [y]) : ∀ {m : List K}, (∀ y ∈ m, y.id ≠ k) → m.flatMap f = m
 | [], _ => rfl
 | y :: m, h => by
  rw [List.flatMap_cons, hf y (h y (List.mem_cons_self ..)), flat_id hf (fun z hz => h z (List.mem_cons_of_mem _ hz))]
  rfl
theorem put_flat {k : Int} {v a : K} {f : K → List K} (hf : ∀ y, y.id ≠ k → f y = [y]) (hv : ∀ y, y.id = k → f y = [v]) : ∀ {l : List KV}, Rise l → Ky l → get k l = some a → (put k v l).map (·.2) = (l.map (·.2)).flatMap f
 | [], _, _, h => by cases h
 | x :: l, hr, hk, h => by
  have hx := hk x (List.mem_cons_self ..)
  obtain ⟨hr2, hlt⟩ := hr.cons
  rw [List.map_cons, List.flatMap_cons]
  unfold put
  by_cases e : x.1 = k
  ·rw [if_neg (by subst e; rw [Sh.Plain.lt_irrefl]; decide), if_pos e, hv x.2 (by rw [← hx]; exact e), flat_id hf (fun y hy => by
    obtain ⟨p, hp, rfl⟩ := List.mem_map.1 hy
    have h1 := hlt p hp
    have h2 := hk p (List.mem_cons_of_mem _ hp)
    rw [← h2, ← e]
    exact (Sh.Plain.lt_ne h1).symm)]
   rfl
  ·have h' : get k l = some a := by
    have : get k (x :: l) = get k l := if_neg e
    rw [← this]; exact h
   have hm := Sh.Plain.get_mem h'
   have h1 : Sh.Plain.lt x.1 k = true := hlt _ hm
   rw [if_pos h1, List.map_cons, put_flat hf hv hr2 hk.tail h', hf x.2 (by rw [← hx]; exact e)]
   rfl
theorem del_flat {k : Int} {f : K → List K} (hf : ∀ y, y.id ≠ k → f y = [y]) (hv : ∀ y, y.id = k → f y = []) : ∀ {l : List KV}, Ky l → (del k l).map (·.2) = (l.map (·.2)).flatMap f
 | [], _ => rfl
 | x :: l, hk => by
  have hx := hk x (List.mem_cons_self ..)
  have ih := del_flat hf hv hk.tail
  rw [List.map_cons, List.flatMap_cons]
  unfold del
  by_cases e : x.1 = k
  ·rw [List.filter_cons_of_neg (by simpa using e), hv x.2 (by rw [← hx]; exact e)]
   exact ih
  ·rw [List.filter_cons_of_pos (by simpa using e), hf x.2 (by rw [← hx]; exact e), List.map_cons]
   show x.2 :: _ = x.2 :: _
   exact congrArg _ ih
theorem put_new {k : Int} {v : K} {l : List KV} (h : ∀ p ∈ l, p.1 < k) : put k v l = l ++ [(k, v)] := by
 have := Sh.Plain.put_over (k := k) (v := v) (C := []) (A := l) (fun y hy => decide_eq_true (h y hy))
 rwa [List.append_nil] at this
theorem get_below {k : Int} {l : List KV} (h : ∀ p ∈ l, p.1 < k) : get k l = none := Sh.Plain.get_none (fun y hy e => by have := h y hy; omega)
theorem del_first {x : KV} {l : List KV} (hr : Rise (x :: l)) : del x.1 (x :: l) = l := by
 have := Sh.Plain.del_mid (k := x.1) (x := x) (A := []) (C := l) rfl (fun y hy => by cases hy) hr.cons.2
 simpa using this
theorem wasN_iff {u : U} {k : K} {l : List KV} (hl : l.map (·.2) = u.live) (hk : Ky l) : wasN u k = (get k.id l).isSome := by
 unfold wasN
 rw [← hl, get_seekK hk]
 unfold seekK
 rw [Bool.eq_iff_iff, List.find?_isSome, List.any_eq_true]
structure Tie (b : Bk) (u : U) (j : Nat) : Prop where
 rel : Rel b u
 ok : b.Ok
 uix : 0 ≤ u.ix ∧ u.ix ≤ j
 ul : u.live.length ≤ j
 ud : u.done.length ≤ j
 is : u.is = !(b.c.beq zc)
 okc : u.is = true → YtplapoenhohliaaGreat.okc u.c = true
 rl : Rise b.live
 rd : Rise b.done
 kl : ∀ p ∈ b.live, p.1 = p.2.id ∧ 1 ≤ p.1 ∧ p.1 ≤ b.ix
 kd : ∀ p ∈ b.done, p.1 ≤ b.ix ∧ livesK p.2 = false
 room : u.is = true → (b.rm : Int) = u.c.get 3
 cl : b.live.length ≤ b.rm
 cd : b.done.length ≤ b.rm
 md : u.is = true → ∀ i, i < 4 → (b.m.getD i 0 ≠ 0 ↔ (i : Int) < u.c.get 1)
theorem Tie.Ky {b : Bk} {u : U} {j : Nat} (h : Tie b u j) : Ky b.live := fun p hp => (h.kl p hp).1
theorem Tie.uok {b : Bk} {u : U} {j : Nat} (h : Tie b u j) (hj : j ≤ 100) : u.Ok := ⟨by have := h.uix; omega, by have := h.ul; omega, by have := h.ud; omega, h.okc⟩
theorem lives_le {k : K} (h1 : 1 ≤ k.st) : livesK k = decide (k.st ≤ 3) := by
 unfold livesK
 by_cases h : k.st ≤ 3
 ·rw [decide_eq_true h]; exact decide_eq_true (by omega)
 ·rw [decide_eq_false h]; exact decide_eq_false (by omega)
theorem next_tie {b : Bk} {u : U} {j : Nat} {k : K} (h : Tie b u j) (hi : u.is = true) (h1 : 1 ≤ k.st) (hg : (∃ a, get k.id b.live = some a) ∨ 3 < k.st ∨ (k.id = b.ix + 1 ∧ b.live.length ≠ b.rm)) (hj : j ≤ 100) :
  ∃ u', nextU u k = (u', ⟨u.ix + 1, k, 0, 0⟩, 0) ∧ Tie (withB b ⟨b.ix + 1, k, 0, 0⟩) u' (j + 1) := by
 have hix := h.rel.ix
 have hrm := h.room hi
 have hbz : b.c.beq zc = false := by have := h.is; rw [hi] at this; simpa using this.symm
 have hpos := h.ok.pos hbz
 have hu := h.uix
 have hok2 : ∀ l d, ({ b with ix := b.ix + 1, live := l, done := d } : Bk).Ok := fun l d => ⟨fun _ => hpos, by show 0 ≤ b.ix + 1 ∧ b.ix + 1 ≤ top; unfold top; omega⟩
 have hdl : u.done.length = b.done.length := by rw [← h.rel.done, List.length_map]
 have hll : u.live.length = b.live.length := by rw [← h.rel.live, List.length_map]
 by_cases h3 : 3 < k.st
 ·have hlv : livesK k = false := by rw [lives_le h1]; exact decide_eq_false (by omega)
  have hw := withB_done (b := b) (x := ⟨b.ix + 1, k, 0, 0⟩) rfl hlv
  have hfl : (del k.id b.live).map (·.2) = liveN u k := by
   unfold liveN
   rw [← h.rel.live]
   refine del_flat (fun y hy => ?_) (fun y hy => ?_) h.Ky
   ·unfold stepL; rw [if_pos hy]
   ·unfold stepL; rw [if_neg (fun e => e hy), if_neg (by omega)]
  have hD : ∃ D : List KV, roomyL b.rm b.done = D ∧ D.length < b.rm ∧ (∀ p ∈ D, p ∈ b.done) ∧ Rise D ∧ doneN u k = D.map (·.2) ++ [k] := by
   unfold roomyL
   by_cases hlt : b.done.length < b.rm
   ·refine ⟨b.done, if_pos hlt, hlt, fun p hp => hp, h.rd, ?_⟩
    unfold doneN
    rw [if_neg (by rw [List.length_append, hdl]; simp; omega), h.rel.done]
   ·rw [if_neg hlt]
    have heq : b.done.length = b.rm := by have := h.cd; omega
    cases hd : b.done with
    | nil => rw [hd] at heq; simp at heq; omega
    | cons x l =>
     have hr := h.rd
     rw [hd] at hr heq
     refine ⟨l, del_first hr, by simp at heq; omega, fun p hp => List.mem_cons_of_mem _ hp, hr.cons.1, ?_⟩
     unfold doneN
     rw [if_pos (by rw [List.length_append, hdl, hd]; simp at heq ⊢; omega), ← h.rel.done, hd]
     rfl
  obtain ⟨D, hD1, hD2, hD3, hD4, hD5⟩ := hD
  have hDk : ∀ p ∈ D, p.1 < b.ix + 1 := fun p hp => by have := (h.kd p (hD3 p hp)).1; omega
  have hwp : Sh.wput b.rm (b.ix + 1) k (roomyL b.rm b.done) = D ++ [(b.ix + 1, k)] := by
   rw [hD1]
   unfold Sh.wput Sh.wok
   rw [if_pos (by rw [Bool.or_eq_true]; exact .inr (decide_eq_true (by omega))), put_new hDk]
  rw [hw]
  simp only [hwp]
  refine ⟨_, by unfold nextU; rw [if_pos h3], ?_⟩
  refine ⟨⟨h.rel.c, by show b.ix + 1 = u.ix + 1; omega, hfl, by show (D ++ [(b.ix + 1, k)]).map (·.2) = doneN u k; rw [hD5, List.map_append]; rfl, h.rel.m⟩, hok2 _ _, by show 0 ≤ u.ix + 1 ∧ u.ix + 1 ≤ ((j + 1 : Nat) : Int); omega, ?_, ?_, h.is, h.okc, ?_, ?_, fun p hp => ?_, fun p hp => ?_, h.room, ?_, ?_, h.md⟩
  ·exact Nat.le_trans (liveN_len u k) (by have := h.ul; omega)
  ·show (doneN u k).length ≤ _
   rw [hD5, List.length_append, List.length_map]
   have : D.length ≤ b.done.length := by
    rw [← hD1]; unfold roomyL; split
    ·exact Nat.le_refl _
    ·split
     ·simp
     ·exact List.length_filter_le _ _
   have := h.ud
   simp; omega
  ·exact h.rl.del
  ·rw [← hwp]; exact Sh.wput_rise (by rw [hD1]; exact hD4)
  ·obtain ⟨a1, a2, a3⟩ := h.kl p (mem_del hp)
   exact ⟨a1, a2, by show p.1 ≤ b.ix + 1; omega⟩
  ·rcases List.mem_append.1 hp with hp | hp
   ·obtain ⟨a1, a2⟩ := h.kd p (hD3 p hp)
    exact ⟨by show p.1 ≤ b.ix + 1; omega, a2⟩
   ·obtain rfl : p = (b.ix + 1, k) := by simpa using hp
    exact ⟨Int.le_refl _, hlv⟩
  ·exact Nat.le_trans (List.length_filter_le _ _) h.cl
  ·show (D ++ [(b.ix + 1, k)]).length ≤ b.rm
   simp; omega
 ·have hlv : livesK k = true := by rw [lives_le h1]; exact decide_eq_true (by omega)
  have hw := withB_live (b := b) (x := ⟨b.ix + 1, k, 0, 0⟩) rfl hlv
  rw [hw]
  rcases hg with ⟨a, ha⟩ | hg | ⟨hid, hne⟩
  ·-- it lives already
   have hwas : wasN u k = true := by rw [wasN_iff h.rel.live h.Ky, ha]; rfl
   have hwp : Sh.wput b.rm k.id k b.live = put k.id k b.live := by
    unfold Sh.wput Sh.wok; rw [if_pos (by rw [ha]; rfl)]
   simp only [hwp]
   have hfl : (put k.id k b.live).map (·.2) = liveN u k := by
    unfold liveN
    rw [← h.rel.live]
    refine put_flat (fun y hy => ?_) (fun y hy => ?_) h.rl h.Ky ha
    ·unfold stepL; rw [if_pos hy]
    ·unfold stepL; rw [if_neg (fun e => e hy), if_pos (by omega)]
   obtain ⟨a1, a2, a3⟩ := h.kl _ (Sh.Plain.get_mem ha)
   have hlen : (put k.id k b.live).length = b.live.length := by rw [Sh.Plain.put_length h.rl, ha]; rfl
   refine ⟨_, by unfold nextU; rw [if_neg h3, if_pos hwas], ?_⟩
   refine ⟨⟨h.rel.c, by show b.ix + 1 = u.ix + 1; omega, hfl, h.rel.done, h.rel.m⟩, hok2 _ _, by show 0 ≤ u.ix + 1 ∧ u.ix + 1 ≤ ((j + 1 : Nat) : Int); omega, ?_, by show u.done.length ≤ j + 1; have := h.ud; omega, h.is, h.okc, h.rl.put, h.rd, fun p hp => ?_, fun p hp => ?_, h.room, ?_, h.cd, h.md⟩
   ·exact Nat.le_trans (liveN_len u k) (by have := h.ul; omega)
   ·rcases mem_put hp with rfl | hp
    ·exact ⟨rfl, a2, by show k.id ≤ b.ix + 1; have : k.id ≤ b.ix := a3; omega⟩
    ·obtain ⟨c1, c2, c3⟩ := h.kl p hp
     exact ⟨c1, c2, by show p.1 ≤ b.ix + 1; omega⟩
   ·obtain ⟨c1, c2⟩ := h.kd p hp
    exact ⟨by show p.1 ≤ b.ix + 1; omega, c2⟩
   ·show (put k.id k b.live).length ≤ b.rm
    rw [hlen]; exact h.cl
  ·exact absurd hg h3
  ·-- it is new
   have hkl : ∀ p ∈ b.live, p.1 < k.id := fun p hp => by have := (h.kl p hp).2.2; omega
   have hgn := get_below hkl
   have hwas : ¬ wasN u k = true := by rw [wasN_iff h.rel.live h.Ky, hgn]; decide
   have hwp : Sh.wput b.rm k.id k b.live = b.live ++ [(k.id, k)] := by
    unfold Sh.wput Sh.wok; rw [if_pos (by rw [Bool.or_eq_true]; exact .inr (decide_eq_true hne)), put_new hkl]
   simp only [hwp]
   have hln : liveN u k = u.live := by
    unfold liveN
    refine flat_id (k := k.id) (fun y hy => ?_) (fun y hy => ?_)
    ·unfold stepL; rw [if_pos hy]
    ·rw [← h.rel.live] at hy
     obtain ⟨p, hp, rfl⟩ := List.mem_map.1 hy
     have e1 := hkl p hp
     have e2 := (h.kl p hp).1
     show p.2.id ≠ k.id
     omega
   have hnf : ¬ u.c.get 3 ≤ ((liveN u k).length : Int) := by rw [hln, hll]; have := h.cl; omega
   refine ⟨_, by unfold nextU; rw [if_neg h3, if_neg hwas, if_neg hnf, hln], ?_⟩
   refine ⟨⟨h.rel.c, by show b.ix + 1 = u.ix + 1; omega, by show (b.live ++ [(k.id, k)]).map (·.2) = u.live ++ [k]; rw [List.map_append, h.rel.live]; rfl, h.rel.done, h.rel.m⟩, hok2 _ _, by show 0 ≤ u.ix + 1 ∧ u.ix + 1 ≤ ((j + 1 : Nat) : Int); omega, ?_, by show u.done.length ≤ j + 1; have := h.ud; omega, h.is, h.okc, ?_, h.rd, fun p hp => ?_, fun p hp => ?_, h.room, ?_, h.cd, h.md⟩
   ·show (u.live ++ [k]).length ≤ j + 1
    have := h.ul; simp; omega
   ·rw [← hwp]; exact Sh.wput_rise h.rl
   ·rcases List.mem_append.1 hp with hp | hp
    ·obtain ⟨c1, c2, c3⟩ := h.kl p hp
     exact ⟨c1, c2, by show p.1 ≤ b.ix + 1; omega⟩
    ·obtain rfl : p = (k.id, k) := by simpa using hp
     exact ⟨rfl, by show 1 ≤ k.id; omega, by show k.id ≤ b.ix + 1; omega⟩
   ·obtain ⟨c1, c2⟩ := h.kd p hp
    exact ⟨by show p.1 ≤ b.ix + 1; omega, c2⟩
   ·show (b.live ++ [(k.id, k)]).length ≤ b.rm
    have := h.cl; simp; omega
theorem next_full {b : Bk} {u : U} {j : Nat} {k : K} (h : Tie b u j) (hi : u.is = true) (h3 : k.st ≤ 3) (hid : k.id = b.ix + 1) (hf : b.live.length = b.rm) : nextU u k = (zu, zg, 5) := by
 have hkl : ∀ p ∈ b.live, p.1 < k.id := fun p hp => by have := (h.kl p hp).2.2; omega
 have hgn := get_below hkl
 have hwas : ¬ wasN u k = true := by rw [wasN_iff h.rel.live h.Ky, hgn]; decide
 have hll : u.live.length = b.live.length := by rw [← h.rel.live, List.length_map]
 have hln : liveN u k = u.live := by
  unfold liveN
  refine flat_id (k := k.id) (fun y hy => ?_) (fun y hy => ?_)
  ·unfold stepL; rw [if_pos hy]
  ·rw [← h.rel.live] at hy
   obtain ⟨p, hp, rfl⟩ := List.mem_map.1 hy
   have e1 := hkl p hp
   have e2 := (h.kl p hp).1
   show p.2.id ≠ k.id
   omega
 unfold nextU
 rw [if_neg (by omega), if_neg hwas, if_pos (by rw [hln, hll]; have := h.room hi; omega)]
end Go.Proofs.YtplapoenhohliaaGreat
namespace Go.Proofs.YtplapoenhohliaaGreat
open Go.RowKit Go.Lib
open Sh.Plain (KV get put del Rise)
set_option linter.unusedVariables false
set_option linter.unusedSimpArgs false
theorem Rel.zero : Rel zb zu := ⟨rfl, rfl, rfl, rfl, rfl⟩
structure Both (b : Bk) (u : U) (j : Nat) (r : Bk × Cg × Int) (r' : U × Cg × Int) : Prop where
 rel : Rel r.1 r'.1
 snd : r.2 = r'.2
 tie : r.2.2 = 0 → Tie r.1 r'.1 (j + 1)
theorem Tie.nil {b : Bk} {u : U} {j : Nat} (h : Tie b u j) : (u.is = false ↔ b.c.beq zc = true) := by
 rw [h.is]; cases b.c.beq zc <;> decide
theorem Tie.ntop {b : Bk} {u : U} {j : Nat} (h : Tie b u j) (hj : j ≤ 100) : b.ix ≠ top := by
 have := h.uix; have := h.rel.ix; unfold top; omega
theorem badA_iff {i n m : Int} (h1 : 1 ≤ i) (h2 : i ≤ top) : (i < 1 ∨ n < 1 ∨ m < 0 ∨ top < max (max i n) m) ↔ badA n m = true := by
 unfold badA
 simp only [Bool.or_eq_true, decide_eq_true_eq]
 omega
theorem mode_set4 {m : List Int} (hl : m.length = 4) {i k : Nat} (hi : i < 4) (v : Int) : (m.set i v).getD k 0 = if k = i then v else m.getD k 0 := by
 rw [List.getD_eq_getElem?_getD, List.getD_eq_getElem?_getD, List.getElem?_set]
 by_cases e : i = k
 ·subst e; rw [if_pos rfl, if_pos (by omega), if_pos rfl]; rfl
 ·rw [if_neg e, if_neg (Ne.symm e)]
theorem have_iff {b : Bk} {u : U} {j : Nat} {n m : Int} (h : Tie b u j) (hi : u.is = true) : haveB b n m = false ↔ (n < 1 ∨ u.c.get 1 < n ∨ (m ≠ 1 ∧ m ≠ 2)) := by
 have h4 : u.c.get 1 ≤ 4 := (cfg_nums (h.okc hi)).2.2
 have key : modeB b n ≠ 0 ↔ (1 ≤ n ∧ n ≤ u.c.get 1) := by
  unfold modeB
  by_cases hn : 1 ≤ n ∧ n ≤ 4
  ·rw [if_pos hn]
   have := h.md hi (n - 1).toNat (by omega)
   rw [this]; omega
  ·rw [if_neg hn]
   constructor
   ·intro e; exact absurd rfl e
   ·intro e; omega
 unfold haveB
 rw [Bool.and_eq_false_iff]
 have k2 : ((modeB b n != 0) = false) ↔ ¬ (1 ≤ n ∧ n ≤ u.c.get 1) := by rw [← key]; simp
 have k3 : ((m == 1 || m == 2) = false) ↔ (m ≠ 1 ∧ m ≠ 2) := by simp
 rw [k2, k3]; omega
theorem set_tie {b : Bk} {u : U} {j : Nat} {n m : Int} (h : Tie b u j) (hi : u.is = true) (hh : haveB b n m = true) (hj : j ≤ 100) :
  ∃ u', setU u n m = (u', ⟨u.ix + 1, zk, n, m⟩, 0) ∧ Tie (withB b ⟨b.ix + 1, zk, n, m⟩) u' (j + 1) := by
 have hnb : ¬ (n < 1 ∨ u.c.get 1 < n ∨ (m ≠ 1 ∧ m ≠ 2)) := fun e => by rw [(have_iff h hi).2 e] at hh; cases hh
 have h4 : u.c.get 1 ≤ 4 := (cfg_nums (h.okc hi)).2.2
 have hu := h.uix; have hix := h.rel.ix
 have hbz : b.c.beq zc = false := by have := h.is; rw [hi] at this; simpa using this.symm
 rw [withB_car (by show n ≠ 0; omega)]
 refine ⟨_, by unfold setU; rw [if_neg (by rw [hi]; decide), if_neg hnb], ?_⟩
 refine ⟨⟨h.rel.c, by show b.ix + 1 = u.ix + 1; omega, h.rel.live, h.rel.done, by show b.m.set _ _ = u.m.set _ _; rw [h.rel.m]⟩, ⟨fun _ => h.ok.pos hbz, by show 0 ≤ b.ix + 1 ∧ b.ix + 1 ≤ top; unfold top; omega⟩, by show 0 ≤ u.ix + 1 ∧ u.ix + 1 ≤ ((j + 1 : Nat) : Int); omega, by show u.live.length ≤ j + 1; have := h.ul; omega, by show u.done.length ≤ j + 1; have := h.ud; omega, h.is, h.okc, h.rl, h.rd, fun p hp => ?_, fun p hp => ?_, h.room, h.cl, h.cd, fun _ i hi4 => ?_⟩
 ·obtain ⟨c1, c2, c3⟩ := h.kl p hp
  exact ⟨c1, c2, by show p.1 ≤ b.ix + 1; omega⟩
 ·obtain ⟨c1, c2⟩ := h.kd p hp
  exact ⟨by show p.1 ≤ b.ix + 1; omega, c2⟩
 ·show (b.m.set (n - 1).toNat m).getD i 0 ≠ 0 ↔ _
  rw [mode_set4 b.ml (by omega)]
  by_cases e : i = (n - 1).toNat
  ·rw [if_pos e]
   show m ≠ 0 ↔ (i : Int) < u.c.get 1
   omega
  ·rw [if_neg e]; exact h.md hi i hi4
structure BothA (b : Bk) (u : U) (j : Nat) (r : Bk × Int) (r' : U × Int) : Prop where
 rel : Rel r.1 r'.1
 snd : r.2 = r'.2
 tie : r.2 = 0 → Tie r.1 r'.1 (j + 1)
theorem BothA.bad {b : Bk} {u : U} {j : Nat} {n : Int} (hn : n ≠ 0) : BothA b u j (zb, n) (zu, n) := ⟨Rel.zero, rfl, fun h => absurd h hn⟩
theorem st_ite {p : Prop} [Decidable p] {r r' : K × Int} (h1 : p → r.2 = 0 → 1 ≤ r.1.st) (h2 : ¬ p → r'.2 = 0 → 1 ≤ r'.1.st) (h : (if p then r else r').2 = 0) : 1 ≤ (if p then r else r').1.st := by
 by_cases hp : p
 ·rw [if_pos hp] at h ⊢; exact h1 hp h
 ·rw [if_neg hp] at h ⊢; exact h2 hp h
theorem st_7 : ((zk, (7 : Int)) : K × Int).2 = 0 → 1 ≤ ((zk, (7 : Int)) : K × Int).1.st := fun h => absurd h (by decide)
theorem st_1 : ((zk, (1 : Int)) : K × Int).2 = 0 → 1 ≤ ((zk, (1 : Int)) : K × Int).1.st := fun h => absurd h (by decide)
theorem kfree_st (y : K) : (kfree y).st = y.st := by unfold kfree; split <;> rfl
theorem left_st (x : K) (n : Int) : (leftK x n).st = 1 := by unfold leftK; split <;> rw [kfree_st]
theorem leave_st1 {c : Cfg} {x : K} {n : Int} (h : (leaveK c x n).2 = 0) : 1 ≤ (leaveK c x n).1.st :=
 st_ite (fun _ => st_ite (fun _ => st_ite (fun _ _ => by show (1 : Int) ≤ 4; decide) (fun _ _ => by show 1 ≤ (leftK x n).st; rw [left_st]; decide)) (fun _ => st_1)) (fun _ => st_7) h
theorem may_st {c : Cfg} {a k : K} (h : mayK c a k = true) : 1 ≤ k.st := by
 unfold mayK at h
 rw [Bool.and_eq_true, List.any_eq_true] at h
 obtain ⟨_, i, hi, hh⟩ := h
 have hi : i < 7 := by simpa using hi
 unfold hit at hh
 rw [Bool.and_eq_true] at hh
 have h0 : (stepK c a k i).2 = 0 := of_decide_eq_true hh.1
 have hk : (stepK c a k i).1 = k := K.beq_iff.1 hh.2
 suffices 1 ≤ (stepK c a k i).1.st by rwa [hk] at this
 clear hh hk
 match i, hi with
 | 0, _ => exact st_ite (fun _ => st_ite (fun _ _ => by show (1 : Int) ≤ 2; decide) (fun _ => st_1)) (fun _ => st_7) h0
 | 1, _ => exact leave_st1 h0
 | 2, _ => exact leave_st1 h0
 | 3, _ => exact st_ite (fun _ _ => by show (1 : Int) ≤ 3; decide) (fun _ => st_7) h0
 | 4, _ => exact st_ite (fun _ _ => by show (1 : Int) ≤ 4; decide) (fun _ => st_7) h0
 | 5, _ => exact st_ite (fun _ _ => by show (1 : Int) ≤ 5; decide) (fun _ => st_7) h0
 | 6, _ => exact st_ite (fun _ _ => by show 1 ≤ (kfree { a with st := 6 }).st; rw [kfree_st]; show (1 : Int) ≤ 6; decide) (fun _ => st_7) h0
theorem plain_asked (k : K) : plainK k = askedK k := rfl
theorem isPl_bad {b : Bk} {u : U} {j : Nat} {x : Cg} (h : Tie b u j) (hj : j ≤ 100) (hx : x.ix = b.ix + 1) (hc : x.car = 0 ∧ x.mode = 0) : isPlB b x = !badP u x := by
 have hu := h.uix; have hix := h.rel.ix
 have ht : 1 ≤ x.ix ∧ x.ix ≤ top := by unfold top; omega
 unfold isPlB badP
 rw [plain_asked, h.rel.c]
 by_cases h0 : chkK u.c (askedK x.k) = 0
 ·by_cases hb : badA x.k.own x.k.born = true
  ·rw [newA_arg h0 ((badA_iff ht.1 ht.2).2 hb), hb]
   simp
  ·have hb' : badA x.k.own x.k.born = false := by simpa using hb
   rw [newA_ok h0 (fun e => hb ((badA_iff ht.1 ht.2).1 e)), hb', h0]
   rw [Bool.eq_iff_iff]
   simp only [Bool.and_eq_true, Bool.not_eq_true', Bool.or_eq_false_iff, bne_eq_false_iff_eq, Cg.beq_iff]
   obtain ⟨ix, ⟨i1, i2, i3, i4, i5, i6, i7, i8⟩, car, mode⟩ := x
   obtain ⟨rfl, rfl⟩ := hc
   simp [askedK]
 ·rw [newA_no h0]
  have e1 : (chkK u.c (askedK x.k) == 0) = false := by simpa using h0
  have e2 : (chkK u.c (askedK x.k) != 0) = true := by simpa using h0
  simp [e1, e2]
theorem apply_both {b : Bk} {u : U} {j : Nat} {x : Cg} (h : Tie b u j) (hj : j ≤ 100) (hr : inI64 x.ix) : BothA b u j (applyB b x) (applyU u x) := by
 have hu := h.uix; have hix := h.rel.ix
 cases hi : u.is
 ·have e1 : applyB b x = (zb, 3) := if_pos (h.nil.1 hi)
  have e2 : applyU u x = (zu, 3) := if_pos hi
  rw [e1, e2]; exact BothA.bad (by decide)
 ·have hbz : b.c.beq zc = false := by have := h.is; rw [hi] at this; simpa using this.symm
  have hnz : ¬ b.c.beq zc = true := by rw [hbz]; decide
  by_cases hx : x.ix = b.ix + 1
  ·have hx2 : ¬ (x.ix < 1 ∨ wrap64 (x.ix - 1) ≠ u.ix) := by
    rintro (e | e)
    ·omega
    ·exact e (by rw [IntWalk.wrap64_in _ (by omega)]; omega)
   have eu : applyU u x = if x.k.beq zk = true then p2 (setU u x.car x.mode) else if x.car ≠ 0 ∨ x.mode ≠ 0 then (zu, 1) else match seekK x.k.id u.live with
     | some a => if mayK u.c a x.k = true then p2 (nextU u x.k) else (zu, 1)
     | none => if badP u x = true then (zu, 1) else p2 (nextU u x.k) := by
    unfold applyU; rw [if_neg (by rw [hi]; decide), if_neg hx2]; rfl
   have eb : ∀ t, (isPlB b x || isOnB b x || isSetB b x) = t → applyB b x = if t = false then (zb, 1) else if isPlB b x = true ∧ b.live.length = b.rm then (zb, 5) else (withB b x, 0) := fun t ht => by
    subst ht
    unfold applyB
    rw [if_neg hnz]
    by_cases e : (isPlB b x || isOnB b x || isSetB b x) = false
    ·rw [if_pos (.inr e), if_pos e]
    ·rw [if_neg (fun e2 => e2.elim (fun e3 => e3 hx) e), if_neg e]
     by_cases e4 : isPlB b x = true ∧ b.live.length = b.rm
     ·rw [if_pos (.inl e4), if_pos e4]
     ·rw [if_neg (fun e5 => e5.elim e4 (h.ntop hj)), if_neg e4]
   have g0 : get 0 b.live = none := Sh.Plain.get_none (fun y hy e => by have := (h.kl y hy).2.1; omega)
   rw [eu]
   cases hk : x.k.beq zk
   ·rw [if_neg (by decide)]
    have hset : isSetB b x = false := by unfold isSetB; rw [hk]; rfl
    by_cases hc : x.car ≠ 0 ∨ x.mode ≠ 0
    ·rw [if_pos hc]
     have hpl : isPlB b x = false := by
      unfold isPlB
      rw [Cg.beq_ne (fun e => by
       have e1 := congrArg Cg.car e; have e2 := congrArg Cg.mode e
       exact hc.elim (fun h => h e1) (fun h => h e2)), Bool.and_false]
     have hon : isOnB b x = false := by
      unfold isOnB
      split
      ·rfl
      ·rw [Cg.beq_ne (fun e => by
        have e1 := congrArg Cg.car e; have e2 := congrArg Cg.mode e
        exact hc.elim (fun h => h e1) (fun h => h e2)), Bool.false_and]
     rw [eb false (by rw [hpl, hon, hset]; rfl), if_pos rfl]
     exact BothA.bad (by decide)
    ·have hc2 : x.car = 0 ∧ x.mode = 0 := ⟨Decidable.byContradiction fun e => hc (.inl e), Decidable.byContradiction fun e => hc (.inr e)⟩
     rw [if_neg hc]
     have hxe : x = ⟨b.ix + 1, x.k, 0, 0⟩ := by
      obtain ⟨ix, k, car, mode⟩ := x
      obtain ⟨rfl, rfl⟩ := hc2
      obtain rfl : ix = b.ix + 1 := hx
      rfl
     have hsk : seekK x.k.id u.live = get x.k.id b.live := by rw [get_seekK h.Ky, h.rel.live]
     rw [hsk]
     cases hg : get x.k.id b.live with
     | some a =>
      have hm := h.kl _ (Sh.Plain.get_mem hg)
      have hpl : isPlB b x = false := by
       cases e : isPlB b x
       ·rfl
       ·have e1 := (isPl_k e).2.2
        have e2 : x.k.id ≤ b.ix := hm.2.2
        omega
      have hon : isOnB b x = mayK u.c a x.k := by
       unfold isOnB
       rw [hg]
       show (x.beq ⟨x.ix, x.k, 0, 0⟩ && mayK b.c a x.k) = _
       rw [Cg.beq_iff.2 (by rw [hx]; exact hxe), h.rel.c, Bool.true_and]
      show BothA b u j _ (if mayK u.c a x.k = true then _ else _)
      cases hy : mayK u.c a x.k
      ·rw [if_neg (by decide), eb false (by rw [hpl, hon, hset, hy]; rfl), if_pos rfl]
       exact BothA.bad (by decide)
      ·rw [if_pos rfl, eb true (by rw [hpl, hon, hset, hy]; rfl), if_neg (by decide), if_neg (fun e => by rw [hpl] at e; cases e.1)]
       obtain ⟨u', e2, ht⟩ := next_tie h hi (may_st hy) (.inl ⟨a, hg⟩) hj
       rw [e2, hxe]
       exact ⟨ht.rel, rfl, fun _ => ht⟩
     | none =>
      have hon : isOnB b x = false := by unfold isOnB; rw [hg]
      have hpb := isPl_bad h hj hx hc2
      show BothA b u j _ (if badP u x = true then _ else _)
      cases hb : badP u x
      ·rw [hb] at hpb
       obtain ⟨_, hst, hid⟩ := isPl_k hpb
       rw [if_neg (by decide), eb true (by rw [hpb]; rfl), if_neg (by decide)]
       by_cases hf : b.live.length = b.rm
       ·rw [if_pos ⟨hpb, hf⟩, next_full h hi (by rw [hst]; decide) (by rw [hid, hx]) hf]
        exact BothA.bad (by decide)
       ·rw [if_neg (fun e => hf e.2)]
        obtain ⟨u', e2, ht⟩ := next_tie h hi (by rw [hst]; decide) (.inr (.inr ⟨by rw [hid, hx], hf⟩)) hj
        rw [e2, hxe]
        exact ⟨ht.rel, rfl, fun _ => ht⟩
      ·rw [hb] at hpb
       rw [if_pos rfl, eb false (by rw [hpb, hon, hset]; rfl), if_pos rfl]
       exact BothA.bad (by decide)
   ·rw [if_pos rfl]
    have hkz := K.beq_iff.1 hk
    have hpl : isPlB b x = false := by
     cases e : isPlB b x
     ·rfl
     ·have e1 := (isPl_k e).2.1
      rw [hkz] at e1
      exact absurd e1 (by decide)
    have hon : isOnB b x = false := by
     unfold isOnB
     rw [hkz]
     show (match get 0 b.live with | none => false | some a => _) = false
     rw [g0]
    have hset : isSetB b x = haveB b x.car x.mode := by unfold isSetB; rw [hk, Bool.true_and]
    cases hh : haveB b x.car x.mode
    ·rw [eb false (by rw [hpl, hon, hset, hh]; rfl), if_pos rfl]
     have e2 : setU u x.car x.mode = (zu, zg, 1) := by unfold setU; rw [if_neg (by rw [hi]; decide), if_pos ((have_iff h hi).1 hh)]
     rw [e2]; exact BothA.bad (by decide)
    ·rw [eb true (by rw [hpl, hon, hset, hh]; rfl), if_neg (by decide), if_neg (fun e => by rw [hpl] at e; cases e.1)]
     obtain ⟨u', e2, ht⟩ := set_tie h hi hh hj
     have hxe : x = ⟨b.ix + 1, zk, x.car, x.mode⟩ := by
      obtain ⟨ix, k, car, mode⟩ := x
      obtain rfl : ix = b.ix + 1 := hx
      obtain rfl : k = zk := hkz
      rfl
     rw [e2]
     have hw : withB b x = withB b ⟨b.ix + 1, zk, x.car, x.mode⟩ := congrArg _ hxe
     rw [hw]
     exact ⟨ht.rel, rfl, fun _ => ht⟩
  ·have hx2 : x.ix < 1 ∨ wrap64 (x.ix - 1) ≠ u.ix := by
    by_cases e : x.ix < 1
    ·exact .inl e
    ·refine .inr (fun e2 => hx ?_)
     unfold inI64 at hr
     rw [IntWalk.wrap64_in _ (by omega)] at e2
     omega
   have e1 : applyB b x = (zb, 1) := by unfold applyB; rw [if_neg hnz, if_pos (.inl hx)]
   have e2 : applyU u x = (zu, 1) := by unfold applyU; rw [if_neg (by rw [hi]; decide), if_pos hx2]
   rw [e1, e2]; exact BothA.bad (by decide)
theorem modesTo_md {n i : Nat} (h : i < 4) : (modesTo n).getD i 0 ≠ 0 ↔ i < n := by
 unfold modesTo
 rw [List.getD_eq_getElem?_getD, List.getElem?_map, List.getElem?_range h]
 show (if i < n then (1 : Int) else 0) ≠ 0 ↔ i < n
 by_cases e : i < n
 ·rw [if_pos e]; simp [e]
 ·rw [if_neg e]; simp [e]
theorem Tie.new (c : Cfg) : Tie (newB c) (newU c) 0 := by
 unfold newB newU
 cases h : YtplapoenhohliaaGreat.okc c
 ·rw [if_neg (by decide), if_neg (by decide)]
  refine ⟨Rel.zero, zb_ok, by decide, by decide, by decide, by rw [show zb.c.beq zc = true from Cfg.beq_self zc]; rfl, (fun e => by cases e), List.Pairwise.nil, List.Pairwise.nil, (fun p hp => by cases hp), (fun p hp => by cases hp), (fun e => by cases e), Nat.le_refl _, Nat.le_refl _, (fun e => by cases e)⟩
 ·rw [if_pos rfl, if_pos rfl]
  obtain ⟨h3, h1⟩ := cfg_nums h
  refine ⟨⟨rfl, rfl, rfl, rfl, rfl⟩, newBk_ok _ h, by show (0 : Int) ≤ 0 ∧ (0 : Int) ≤ 0; decide, Nat.le_refl _, Nat.le_refl _, ?_, fun _ => h, List.Pairwise.nil, List.Pairwise.nil, (fun p hp => by cases hp), (fun p hp => by cases hp), (fun _ => by show (((c.get 3).toNat : Nat) : Int) = c.get 3; omega), Nat.zero_le _, Nat.zero_le _, fun _ i hi => ?_⟩
  ·show true = !(c.beq zc)
   rw [nil_of_bad h]; rfl
  ·show (modesTo (c.get 1).toNat).getD i 0 ≠ 0 ↔ (i : Int) < c.get 1
   rw [modesTo_md hi]; omega
end Go.Proofs.YtplapoenhohliaaGreat
