/- KeysExact, plain: the document's own keys hold what the program's hold. No Go text. -/
import Derived.Test.YtedogbkkophghaaKyV
import Derived.Test.YtedogbkkophghaaKyP
namespace Go.Proofs.Ytedogbkkophghaa
open Go.RowKit Go.Lib
open Sh.Plain (KV get put Rise)
set_option linter.unusedVariables false
set_option linter.unusedSimpArgs false

def kvOf (c : Cfg) (y : En) : KV := (pl y.who y.key, ⟨lastK c y.key, y.body, y.ans⟩)
theorem put_perm {k : ByteArray} {v : E} : ∀ {l : List KV}, get k l = none → (put k v l).Perm ((k, v) :: l)
  | [], _ => List.Perm.refl _
  | x :: l, h => by
    have hx := Sh.Plain.get_none_iff h x (by simp)
    have hl : get k l = none := Sh.Plain.get_none (fun y hy => Sh.Plain.get_none_iff h y (by simp [hy]))
    unfold put
    by_cases h1 : Sh.Plain.lt x.1 k = true
    · rw [if_pos h1]
      exact (List.Perm.cons x (put_perm hl)).trans (List.Perm.swap ..)
    · rw [if_neg h1, if_neg hx]
/-- the same keys -/
structure Rel (b : Ky) (u : Ur) : Prop where
  c : u.c = b.c
  p : b.l.Perm (u.l.map (kvOf b.c))
  k : ∀ y ∈ u.l, isW y.who ∧ isU y.key
  full : okc b.c = true → (b.l.length : Int) ≤ b.c.get 5
theorem Rel.cnt {b : Ky} {u : Ur} (h : Rel b u) (now : Int) : (cnt now b.l).Perm ((rcnt u.c now u.l).map (kvOf b.c)) := by
  have h1 := h.p.filter (fun x => Sh.alive now x.2)
  rw [List.filter_map] at h1
  unfold Go.Proofs.Ytedogbkkophghaa.cnt rcnt
  rw [h.c]
  have e : ((fun x : KV => Sh.alive now x.2) ∘ kvOf b.c) = ralive b.c now := by
    funext y
    have : Sh.alive now (kvOf b.c y).2 = ralive b.c now y := by
      rw [Bool.eq_iff_iff, alive_iff]
      unfold ralive kvOf lastK
      simp
    exact this
  rwa [e] at h1
theorem Rel.count {b : Ky} {u : Ur} (h : Rel b u) (now : Int) : (Go.Proofs.Ytedogbkkophghaa.cnt now b.l).length = (rcnt u.c now u.l).length := by
  rw [(h.cnt now).length_eq, List.length_map]
theorem Rel.can {b : Ky} {u : Ur} (h : Rel b u) {now who k : Int} (hk : isU k) : rcan u.c now who k = canK b.c now who k := by
  have := stp_in hk
  unfold rcan canK goodK
  rw [h.c, Bool.eq_iff_iff]
  simp
  omega
theorem Rel.find {b : Ky} {u : Ur} (h : Rel b u) (hr : Rise b.l) {now who k : Int} (hw : isW who) (hk : isU k) (hl : now ≤ lastK b.c k) :
    get (pl who k) b.l = (rfind who k (rcnt u.c now u.l)).map (fun y => (⟨lastK b.c y.key, y.body, y.ans⟩ : E)) := by
  cases hf : rfind who k (rcnt u.c now u.l) with
  | some y =>
    have hm := List.mem_of_find?_eq_some hf
    have hp := List.find?_some hf
    unfold rmatch at hp
    simp at hp
    obtain ⟨rfl, rfl⟩ := hp
    have h2 : kvOf b.c y ∈ b.l := h.p.mem_iff.2 (List.mem_map.2 ⟨y, (List.mem_filter.1 hm).1, rfl⟩)
    exact Sh.Plain.get_of_mem hr h2
  | none =>
    cases hg : get (pl who k) b.l with
    | none => rfl
    | some x =>
      exfalso
      obtain ⟨y, hy, e⟩ := List.mem_map.1 (h.p.mem_iff.1 (Sh.Plain.get_mem hg))
      have e1 : pl y.who y.key = pl who k := congrArg Prod.fst e
      obtain ⟨a, c⟩ := pl_inj (h.k y hy).1 hw (h.k y hy).2 hk e1
      have h3 := List.find?_eq_none.1 hf y (List.mem_filter.2 ⟨hy, by unfold ralive; rw [h.c, c]; unfold lastK at hl; simpa using hl⟩)
      unfold rmatch at h3
      simp [a, c] at h3
theorem Rel.look {b : Ky} {u : Ur} (h : Rel b u) (hr : Rise b.l) {now who k : Int} (body : ByteArray) (hk : isU k) : rlook u now who k body = lookK b now who k body := by
  unfold rlook lookK
  rw [h.can hk]
  by_cases hc : canK b.c now who k = true
  · rw [if_pos hc, if_pos hc]
    obtain ⟨hw, hok, h1, h2, h3⟩ := canK_in hc
    rw [h.find hr hw hk h2]
    cases hf : rfind who k (rcnt u.c now u.l) with
    | some y => rfl
    | none =>
      have hn := h.count now
      have hfu := h.full hok
      have hle : (Go.Proofs.Ytedogbkkophghaa.cnt now b.l).length ≤ b.l.length := List.length_filter_le ..
      simp only [Option.map_none]
      rw [h.c, hn]
      by_cases e : ((rcnt b.c now u.l).length : Int) = b.c.get 5
      · rw [h.c, if_pos e, if_pos (by omega)]
      · rw [h.c] at hn ⊢
        rw [if_neg e, if_neg (by omega)]
  · rw [if_neg hc, if_neg hc]
theorem Rel.withY {b : Ky} {u : Ur} (h : Rel b u) (hr : Rise b.l) (hwf : Wf b) {now who k : Int} {body ans : ByteArray} (hk : isU k) (hl : (lookK b now who k body).2 = 1) : Rel (withY b now who k body ans) (radd u now who k body ans) := by
  obtain ⟨hc, hg, hn⟩ := look_new hl
  obtain ⟨hw, hok, h1, h2, h3⟩ := canK_in hc
  refine ⟨h.c, ?_, ?_, ?_⟩
  · show (put (pl who k) (entK b.c k body ans) (Go.Proofs.Ytedogbkkophghaa.cnt now b.l)).Perm ((rcnt u.c now u.l ++ [rone who k body ans]).map (kvOf b.c))
    rw [List.map_append]
    have e : [rone who k body ans].map (kvOf b.c) = [(pl who k, entK b.c k body ans)] := rfl
    rw [e]
    exact ((put_perm (get_cnt hg)).trans (List.Perm.cons _ (h.cnt now))).trans (List.perm_append_comm (l₁ := [_]))
  · intro y hy
    rcases List.mem_append.1 hy with hy | hy
    · exact h.k y (List.mem_filter.1 hy).1
    · obtain rfl : y = rone who k body ans := by simpa using hy
      exact ⟨hw, hk⟩
  · intro _
    have := (cnt_with (body := body) (ans := ans) hwf h2 hg).2
    have hle : (Go.Proofs.Ytedogbkkophghaa.cnt now b.l).length ≤ b.l.length := List.length_filter_le ..
    have hfu := h.full hok
    show ((Go.Proofs.Ytedogbkkophghaa.withY b now who k body ans).l.length : Int) ≤ b.c.get 5
    omega
/-- what holds behind every deed: the program's and the document's own -/
structure KI (c : Cfg) (b : Ky) (u : Ur) (n : Nat) : Prop where
  wf : Wf b
  kc : KC c b
  rel : Rel b u
  len : u.l.length ≤ n
theorem KI.new (c : Cfg) : KI c (makeK c) (if okc c = true then ⟨c, []⟩ else zu) 0 := by
  refine ⟨Wf.make c, KC.make c, ?_, ?_⟩
  · unfold makeK
    cases h : okc c
    · exact ⟨rfl, List.Perm.refl _, fun y hy => by simp [zu] at hy, fun _ => (show ((zy.l.length : Nat) : Int) ≤ zy.c.get 5 from by decide)⟩
    · refine ⟨rfl, List.Perm.refl _, fun y hy => by simp at hy, fun _ => ?_⟩
      have := (okc_spec.1 h 5 (by decide)).1
      have e : (0 : Int) ≤ lo 5 := by decide
      simp
      omega
  · cases h : okc c <;> simp [zu]
theorem KI.mono {c : Cfg} {b : Ky} {u : Ur} {n m : Nat} (h : KI c b u n) (hn : n ≤ m) : KI c b u m := ⟨h.wf, h.kc, h.rel, Nat.le_trans h.len hn⟩
theorem KI.key {c : Cfg} {b : Ky} {u : Ur} {n : Nat} (h : KI c b u n) : ∀ y ∈ u.l, isU y.key := fun y hy => (h.rel.k y hy).2
theorem KI.win {c : Cfg} {b : Ky} {u : Ur} {n : Nat} (h : KI c b u n) : 0 ≤ u.c.get 6 ∧ u.c.get 6 ≤ 65536 := by
  rw [h.rel.c]
  rcases h.kc with ⟨h1, h2⟩ | ⟨_, rfl⟩
  · rw [h2]
    obtain ⟨a, b⟩ := okc_spec.1 h1 6 (by decide)
    have e1 : (0 : Int) ≤ lo 6 := by decide
    have e2 : hi 6 ≤ (65536 : Int) := by decide
    omega
  · decide
theorem KI.look {c : Cfg} {b : Ky} {u : Ur} {n : Nat} (h : KI c b u n) {now who k : Int} (body : ByteArray) (hk : isU k) : rlook u now who k body = lookK b now who k body := h.rel.look h.wf.rise body hk
theorem KI.done {c : Cfg} {b : Ky} {u : Ur} {n : Nat} (h : KI c b u n) {now who k : Int} {body : ByteArray} (ans : ByteArray) (hk : isU k) (hl : (lookK b now who k body).2 = 1) : KI c (withY b now who k body ans) (radd u now who k body ans) (n + 1) := by
  obtain ⟨hc, hg, hn⟩ := look_new hl
  obtain ⟨hw, hok, h1, h2, h3⟩ := canK_in hc
  obtain ⟨e1, e2⟩ := h.kc.of_ok hok
  refine ⟨h.wf.withY hw hk _ _, .inl ⟨e1, e2⟩, h.rel.withY h.wf.rise h.wf hk hl, ?_⟩
  show (rcnt u.c now u.l ++ [rone who k body ans]).length ≤ n + 1
  have : (rcnt u.c now u.l).length ≤ u.l.length := List.length_filter_le ..
  have := h.len
  rw [List.length_append]
  simp
  omega
end Go.Proofs.Ytedogbkkophghaa
