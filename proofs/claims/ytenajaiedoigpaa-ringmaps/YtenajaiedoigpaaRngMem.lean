/- A ring in memory: its own block, and the block of its places. No Go text. -/
import Derived.Test.YtenajaiedoigpaaMem
import Derived.Test.YtenajaiedoigpaaRngPlain
namespace Go.Proofs.Ytenajaiedoigpaa
open Go.RowKit Go.Lib Plain

section
variable {α : Type}
/-- what a block of places holds: one cell a thing, one its number -/
def two (enc : α → Value) (arr : Array Value) (cap : Nat) (pl : Nat → α × Nat) : Prop :=
  arr.size = cap * 2 ∧ ∀ i, i < cap → arr[i * 2]? = some (enc (pl i).1) ∧ arr[i * 2 + 1]? = some (.int .i64 ((pl i).2 : Int))
/-- the same of pairs -/
def three (arr : Array Value) (cap : Nat) (pl : Nat → (Int × Bool) × Nat) : Prop :=
  arr.size = cap * 3 ∧ ∀ i, i < cap → arr[i * 3]? = some (.int .i64 (pl i).1.1) ∧ arr[i * 3 + 1]? = some (.bool (pl i).1.2) ∧ arr[i * 3 + 2]? = some (.int .i64 ((pl i).2 : Int))
/-- a block of places -/
def Pls (φ : Array Value → Nat → (Nat → α × Nat) → Prop) (t : TypeId) (w : World) (g cap : Nat) (pl : Nat → α × Nat) : Prop := ∃ arr, At w g t arr ∧ φ arr cap pl
theorem two.put {enc : α → Value} {arr : Array Value} {cap : Nat} {pl : Nat → α × Nat} (h : two enc arr cap pl) (i : Nat) (x : α × Nat) (hi : i < cap) :
    two enc ((arr.setIfInBounds (i * 2) (enc x.1)).setIfInBounds (i * 2 + 1) (.int .i64 (x.2 : Int))) cap (upd pl i x) := by
  refine ⟨by simpa using h.1, fun k hk => ?_⟩
  have hz := h.1
  by_cases e : k = i
  · subst e
    rw [upd_at]
    refine ⟨?_, ?_⟩
    · rw [Array.getElem?_setIfInBounds_ne (by omega), Array.getElem?_setIfInBounds_self_of_lt (by omega)]
    · rw [Array.getElem?_setIfInBounds_self_of_lt (by simp; omega)]
  · rw [upd_far _ _ e]
    refine ⟨?_, ?_⟩
    · rw [Array.getElem?_setIfInBounds_ne (by omega), Array.getElem?_setIfInBounds_ne (by omega)]; exact (h.2 k hk).1
    · rw [Array.getElem?_setIfInBounds_ne (by omega), Array.getElem?_setIfInBounds_ne (by omega)]; exact (h.2 k hk).2
theorem three.put {arr : Array Value} {cap : Nat} {pl : Nat → (Int × Bool) × Nat} (h : three arr cap pl) (i : Nat) (x : (Int × Bool) × Nat) (hi : i < cap) :
    three (((arr.setIfInBounds (i * 3) (.int .i64 x.1.1)).setIfInBounds (i * 3 + 1) (.bool x.1.2)).setIfInBounds (i * 3 + 2) (.int .i64 (x.2 : Int))) cap (upd pl i x) := by
  refine ⟨by simpa using h.1, fun k hk => ?_⟩
  have hz := h.1
  by_cases e : k = i
  · subst e
    rw [upd_at]
    refine ⟨?_, ?_, ?_⟩
    · rw [Array.getElem?_setIfInBounds_ne (by omega), Array.getElem?_setIfInBounds_ne (by omega), Array.getElem?_setIfInBounds_self_of_lt (by omega)]
    · rw [Array.getElem?_setIfInBounds_ne (by omega), Array.getElem?_setIfInBounds_self_of_lt (by simp; omega)]
    · rw [Array.getElem?_setIfInBounds_self_of_lt (by simp; omega)]
  · rw [upd_far _ _ e]
    obtain ⟨h1, h2, h3⟩ := h.2 k hk
    refine ⟨?_, ?_, ?_⟩
    · rw [Array.getElem?_setIfInBounds_ne (by omega), Array.getElem?_setIfInBounds_ne (by omega), Array.getElem?_setIfInBounds_ne (by omega)]; exact h1
    · rw [Array.getElem?_setIfInBounds_ne (by omega), Array.getElem?_setIfInBounds_ne (by omega), Array.getElem?_setIfInBounds_ne (by omega)]; exact h2
    · rw [Array.getElem?_setIfInBounds_ne (by omega), Array.getElem?_setIfInBounds_ne (by omega), Array.getElem?_setIfInBounds_ne (by omega)]; exact h3

variable {φ : Array Value → Nat → (Nat → α × Nat) → Prop} {rt pt : TypeId} {w w' w1 : World} {g cap : Nat} {pl : Nat → α × Nat}
theorem Pls.lt (h : Pls φ pt w g cap pl) : g < w.heap.size := by obtain ⟨arr, h, _⟩ := h; exact h.lt
theorem Pls.alloc (h : Pls φ pt w g cap pl) (o : Obj) : Pls φ pt (w.alloc o) g cap pl := by obtain ⟨arr, h, k⟩ := h; exact ⟨arr, h.alloc o, k⟩
theorem Pls.drewN (h : Pls φ pt w g cap pl) (n : Nat) : Pls φ pt (w.drewN n) g cap pl := h
theorem Pls.far (h : Pls φ pt w g cap pl) {p : Addr} (hp : g ≠ p.block) (u : Value) : Pls φ pt (w.setCell p u) g cap pl := by obtain ⟨arr, h, k⟩ := h; exact ⟨arr, h.far hp u, k⟩
theorem Pls.chg {S : Nat → Prop} (h : Pls φ pt w g cap pl) (hc : Chg w w' S) (hg : ¬ S g) : Pls φ pt w' g cap pl := by obtain ⟨arr, h, k⟩ := h; exact ⟨arr, h.chg hc hg, k⟩
theorem Pls.below {B : Nat} (h : Pls φ pt w g cap pl) (hb : Below B w w') (hg : g < B) : Pls φ pt w' g cap pl := by obtain ⟨arr, h, k⟩ := h; exact ⟨arr, h.below hb hg, k⟩
theorem Pls.ne (h : Pls φ pt w g cap pl) {g' : Nat} {t' : TypeId} {cs : Array Value} (k : At w g' t' cs) (hne : pt ≠ t') : g ≠ g' := by obtain ⟨arr, h, _⟩ := h; exact h.ne k hne
theorem Pls.frozen (h : Pls φ pt w g cap pl) (i : Nat) : w.frozen? ⟨g, i, none⟩ = false := by obtain ⟨arr, h, _⟩ := h; exact h.frozen i
section
variable {enc : α → Value}
theorem Pls.c0 (h : Pls (two enc) pt w g cap pl) {i : Nat} (hi : i < cap) : w.cell? ⟨g, i * 2, none⟩ = some (enc (pl i).1) := by obtain ⟨arr, h, k⟩ := h; rw [h.cell]; exact (k.2 i hi).1
theorem Pls.c1 (h : Pls (two enc) pt w g cap pl) {i : Nat} (hi : i < cap) : w.cell? ⟨g, i * 2 + 1, none⟩ = some (.int .i64 ((pl i).2 : Int)) := by obtain ⟨arr, h, k⟩ := h; rw [h.cell]; exact (k.2 i hi).2
theorem Pls.put (h : Pls (two enc) pt w g cap pl) {i : Nat} (hi : i < cap) (x : α × Nat) : Pls (two enc) pt ((w.setCell ⟨g, i * 2, none⟩ (enc x.1)).setCell ⟨g, i * 2 + 1, none⟩ (.int .i64 (x.2 : Int))) g cap (upd pl i x) := by
  obtain ⟨arr, h, k⟩ := h; exact ⟨_, (h.set _ _).set _ _, k.put i x hi⟩
end
theorem Pls.d0 {pl : Nat → (Int × Bool) × Nat} (h : Pls three pt w g cap pl) {i : Nat} (hi : i < cap) : w.cell? ⟨g, i * 3, none⟩ = some (.int .i64 (pl i).1.1) := by obtain ⟨arr, h, k⟩ := h; rw [h.cell]; exact (k.2 i hi).1
theorem Pls.d1 {pl : Nat → (Int × Bool) × Nat} (h : Pls three pt w g cap pl) {i : Nat} (hi : i < cap) : w.cell? ⟨g, i * 3 + 1, none⟩ = some (.bool (pl i).1.2) := by obtain ⟨arr, h, k⟩ := h; rw [h.cell]; exact (k.2 i hi).2.1
theorem Pls.d2 {pl : Nat → (Int × Bool) × Nat} (h : Pls three pt w g cap pl) {i : Nat} (hi : i < cap) : w.cell? ⟨g, i * 3 + 2, none⟩ = some (.int .i64 ((pl i).2 : Int)) := by obtain ⟨arr, h, k⟩ := h; rw [h.cell]; exact (k.2 i hi).2.2
theorem Pls.put3 {pl : Nat → (Int × Bool) × Nat} (h : Pls three pt w g cap pl) {i : Nat} (hi : i < cap) (x : (Int × Bool) × Nat) :
    Pls three pt (((w.setCell ⟨g, i * 3, none⟩ (.int .i64 x.1.1)).setCell ⟨g, i * 3 + 1, none⟩ (.bool x.1.2)).setCell ⟨g, i * 3 + 2, none⟩ (.int .i64 (x.2 : Int))) g cap (upd pl i x) := by
  obtain ⟨arr, h, k⟩ := h; exact ⟨_, ((h.set _ _).set _ _).set _ _, k.put i x hi⟩

/-- a ring at block p, all of it from block B on: its five fields, and what stands at its places -/
structure RSt (φ : Array Value → Nat → (Nat → α × Nat) → Prop) (rt pt : TypeId) (w : World) (B p : Nat) (v : Value) (f L cap n room m : Nat) (pl : Nat → α × Nat) : Prop where
  at_ : At w p rt #[v, .int .i64 (f : Int), .int .i64 (n : Int), .int .i64 (room : Int), .int .i64 (m : Int)]
  lo : B ≤ p
  rows : (v = .slice none 0 0 ∧ L = 0 ∧ cap = 0) ∨ ∃ g, v = .slice (some ⟨g, 0, none⟩) L cap ∧ B ≤ g ∧ Pls φ pt w g cap pl
  lc : L ≤ cap
  lr : L ≤ room
  nl : n ≤ L
  rm : room ≤ 65536
  fl : f < L ∨ f = 0
  asc : Asc (rd pl f L n) m
/-- a ring at block p in which these stand, in order, each with its number -/
def RAt (φ : Array Value → Nat → (Nat → α × Nat) → Prop) (rt pt : TypeId) (w : World) (B p room : Nat) (its : List (α × Nat)) (m : Nat) : Prop :=
  ∃ v f L cap n pl, RSt φ rt pt w B p v f L cap n room m pl ∧ rd pl f L n = its
/-- blocks of rings and of their places, from block B on -/
def RBlk (rt pt : TypeId) (w : World) (B k : Nat) : Prop := B ≤ k ∧ ∃ cs, At w k rt cs ∨ At w k pt cs

variable {B p f L n room m : Nat} {v : Value} {its : List (α × Nat)}
theorem RSt.f0 (h : RSt φ rt pt w B p v f L cap n room m pl) : w.cell? ⟨p, 0, none⟩ = some v := by rw [h.at_.cell]; rfl
theorem RSt.f1 (h : RSt φ rt pt w B p v f L cap n room m pl) : w.cell? ⟨p, 1, none⟩ = some (.int .i64 (f : Int)) := by rw [h.at_.cell]; rfl
theorem RSt.f2 (h : RSt φ rt pt w B p v f L cap n room m pl) : w.cell? ⟨p, 2, none⟩ = some (.int .i64 (n : Int)) := by rw [h.at_.cell]; rfl
theorem RSt.f3 (h : RSt φ rt pt w B p v f L cap n room m pl) : w.cell? ⟨p, 3, none⟩ = some (.int .i64 (room : Int)) := by rw [h.at_.cell]; rfl
theorem RSt.f4 (h : RSt φ rt pt w B p v f L cap n room m pl) : w.cell? ⟨p, 4, none⟩ = some (.int .i64 (m : Int)) := by rw [h.at_.cell]; rfl
theorem RSt.chg {S : Nat → Prop} (h : RSt φ rt pt w B p v f L cap n room m pl) (hc : Chg w w' S) (hS : ∀ k, RBlk rt pt w B k → ¬ S k) : RSt φ rt pt w' B p v f L cap n room m pl := by
  refine ⟨h.at_.chg hc (hS p ⟨h.lo, _, .inl h.at_⟩), h.lo, ?_, h.lc, h.lr, h.nl, h.rm, h.fl, h.asc⟩
  rcases h.rows with h0 | ⟨g, e, hg, hp⟩
  · exact .inl h0
  · obtain ⟨arr, ha, _⟩ := id hp
    exact .inr ⟨g, e, hg, hp.chg hc (hS g ⟨hg, _, .inr ha⟩)⟩
theorem RSt.below (h : RSt φ rt pt w B p v f L cap n room m pl) (hb : Below w.heap.size w w') : RSt φ rt pt w' B p v f L cap n room m pl :=
  h.chg (Chg.ofBelow hb (fun _ => False)) (fun _ _ h => h)
theorem RSt.some_row (h : RSt φ rt pt w B p v f L cap n room m pl) (hL : 0 < L) : ∃ g, v = .slice (some ⟨g, 0, none⟩) L cap ∧ B ≤ g ∧ Pls φ pt w g cap pl := by
  rcases h.rows with ⟨_, h0, _⟩ | h
  · omega
  · exact h
theorem RSt.shape (h : RSt φ rt pt w B p v f L cap n room m pl) : v = .slice none 0 0 ∧ L = 0 ∨ ∃ g, v = .slice (some ⟨g, 0, none⟩) L cap := by
  rcases h.rows with ⟨h1, h2, _⟩ | ⟨g, h, _⟩
  · exact .inl ⟨h1, h2⟩
  · exact .inr ⟨g, h⟩
theorem RAt.chg {S : Nat → Prop} (h : RAt φ rt pt w B p room its m) (hc : Chg w w' S) (hS : ∀ k, RBlk rt pt w B k → ¬ S k) : RAt φ rt pt w' B p room its m := by
  obtain ⟨v, f, L, cap, n, pl, h, e⟩ := h
  exact ⟨v, f, L, cap, n, pl, h.chg hc hS, e⟩
theorem RAt.below (h : RAt φ rt pt w B p room its m) (hb : Below w.heap.size w w') : RAt φ rt pt w' B p room its m :=
  h.chg (Chg.ofBelow hb (fun _ => False)) (fun _ _ h => h)
theorem RAt.lt (h : RAt φ rt pt w B p room its m) : p < w.heap.size := by obtain ⟨v, f, L, cap, n, pl, h, _⟩ := h; exact h.at_.lt
theorem RAt.lo (h : RAt φ rt pt w B p room its m) : B ≤ p := by obtain ⟨v, f, L, cap, n, pl, h, _⟩ := h; exact h.lo
theorem RAt.length (h : RAt φ rt pt w B p room its m) : its.length ≤ room ∧ room ≤ 65536 := by
  obtain ⟨v, f, L, cap, n, pl, h, rfl⟩ := h; rw [rd_length]; have := h.nl; have := h.lr; have := h.rm; omega
theorem RAt.asc (h : RAt φ rt pt w B p room its m) : Asc its m := by obtain ⟨v, f, L, cap, n, pl, h, rfl⟩ := h; exact h.asc
/-- what changes rings, one behind the other -/
theorem rchg_trans {a b c : World} (h : Chg a b (RBlk rt pt a B)) (k : Chg b c (RBlk rt pt b B)) : Chg a c (RBlk rt pt a B) := by
  refine h.trans k (fun i hi hs => ?_)
  by_cases hh : RBlk rt pt a B i
  · exact hh
  · have e := h.block i hi hh
    obtain ⟨hB, cs, hs⟩ := hs
    exact absurd ⟨hB, cs, by unfold At at hs ⊢; rw [← e]; exact hs⟩ hh
theorem rchg_below {a b c : World} (h : Chg a b (RBlk rt pt a B)) (k : Below b.heap.size b c) : Chg a c (RBlk rt pt a B) := h.trans (Chg.ofBelow k (fun _ => False)) (fun _ _ h => h.elim)
theorem below_rchg {a b c : World} (h : Below a.heap.size a b) (k : Chg b c (RBlk rt pt b B)) : Chg a c (RBlk rt pt a B) :=
  rchg_trans (Chg.ofBelow h _) k
theorem rchg_toBelow {a b : World} (h : Chg a b (RBlk rt pt a B)) (hB : a.heap.size ≤ B) : Below a.heap.size a b := h.toBelow (Nat.le_refl _) (fun k hk hs => by have := hs.1; omega)
/-- a block of another type stays -/
theorem At.ring {a b : World} {t : TypeId} {cs : Array Value} (h : At a g t cs) (hc : Chg a b (RBlk rt pt a B)) (h1 : t ≠ rt) (h2 : t ≠ pt) : At b g t cs :=
  h.chg hc (fun hs => by
    obtain ⟨_, cs', hs | hs⟩ := hs
    · exact h.ne hs h1 rfl
    · exact h.ne hs h2 rfl)
/-- a row of another type stays -/
theorem own_ring {a b : World} {base : Nat} {e : TypeId} {size : Nat} {x : Value} {k : Nat} {xs : List Value} (h : a.ownsRow base e size x k xs) (hc : Chg a b (RBlk rt pt a B)) (h1 : e ≠ rt) (h2 : e ≠ pt) : b.ownsRow base e size x k xs :=
  own_chg h hc (fun g hg hs => by
    obtain ⟨_, cs', hs | hs⟩ := hs
    · exact own_ne h hs h1 hg
    · exact own_ne h hs h2 hg)
/-- a new ring -/
theorem RSt.new (w : World) (room : Nat) (pl : Nat → α × Nat) (h : room ≤ 65536) : RSt φ rt pt (w.alloc (.cells #[.slice none 0 0, .int .i64 0, .int .i64 0, .int .i64 (room : Int), .int .i64 0] rt)) w.heap.size w.heap.size (.slice none 0 0) 0 0 0 0 room 0 pl :=
  ⟨At.new w rt _, Nat.le_refl _, .inl ⟨rfl, rfl, rfl⟩, Nat.le_refl _, Nat.zero_le _, Nat.le_refl _, h, .inr rfl, by simpa [rd] using Asc.nil _⟩
theorem at5_set {w : World} {g : Nat} {t : TypeId} {a b c d e : Value} (h : At w g t #[a, b, c, d, e]) (u : Value) : At (w.setCell ⟨g, 0, none⟩ u) g t #[u, b, c, d, e] ∧ At (w.setCell ⟨g, 1, none⟩ u) g t #[a, u, c, d, e] ∧ At (w.setCell ⟨g, 2, none⟩ u) g t #[a, b, u, d, e] ∧ At (w.setCell ⟨g, 4, none⟩ u) g t #[a, b, c, d, u] := by
  have h0 := At.set h 0 u; have h1 := At.set h 1 u; have h2 := At.set h 2 u; have h4 := At.set h 4 u
  exact ⟨by simpa using h0, by simpa using h1, by simpa using h2, by simpa using h4⟩
end
end Go.Proofs.Ytenajaiedoigpaa
