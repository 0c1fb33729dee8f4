/- A row of numbers that a call owns, and what is appended to it. -/
import Derived.Test.YtepfgheliddpmaaBuArgs
import Derived.ChangeSlices
import Derived.Deep.Grids
import Derived.Lib.AppendZeros
import Derived.Maps.AppendAt
namespace Go.Proofs.Ytepfgheliddpmaa
open Go.RowKit Go.Lib
set_option linter.unusedVariables false
set_option linter.unusedSimpArgs false

theorem add_at (b off i : Nat) : (⟨b, off, none⟩ : Addr).add i = ⟨b, off + i, none⟩ := by
  unfold Addr.add
  by_cases h1 : i = 0 <;> simp [h1]
/-- a row of numbers that a call owns -/
def OwnI (w : World) (B : Nat) (v : Value) (zs : List Int) : Prop := w.ownsRow B 3 1 v zs.length (zs.map (Value.int .i64))
section
variable {w w' : World} {B : Nat} {v : Value} {zs : List Int}
/-- it can be read -/
theorem OwnI.sl (h : OwnI w B v zs) : ∃ O cap, v = .slice O zs.length cap ∧ IntsAt w w.heap.size O zs := by
  rcases h.2 with ⟨rfl, h0⟩ | ⟨g, cap, cur, rfl, _, hg, _⟩
  · have : zs = [] := List.length_eq_zero_iff.1 h0
    subst this
    exact ⟨none, 0, rfl, fun i hi => absurd hi (by simp)⟩
  · refine ⟨_, cap, rfl, fun i hi => ⟨g, 0, rfl, (Array.getElem?_eq_some_iff.1 hg).1, ?_⟩⟩
    have := World.ownsRow.cells h (g := g) rfl i (.int .i64 (zs.getD i 0)) (by simp [hi])
    rw [add_at] at this
    exact this
theorem OwnI.below (h : OwnI w B v zs) (hb : Below w.heap.size w w') : OwnI w' B v zs := own_chg h (Chg.ofBelow hb (fun _ => False)) (fun _ _ h => h)
theorem OwnI.lt (h : OwnI w B v zs) {g : Nat} (hg : v.ownBlock = some g) : B ≤ g ∧ g < w.heap.size := World.ownsRow.lt h g hg
/-- another block of another type is written to -/
theorem OwnI.setRow {q : Nat} {x : Bt} (h : OwnI w B v zs) (hq : BtAt w q x) (d : Array Value) : OwnI (w.setRow q d) B v zs := by
  refine ⟨h.1, ?_⟩
  have hne := own_ne h hq (by decide)
  rcases h.2 with hn | ⟨g, cap, cur, hv, hb, hgg, rest⟩
  · exact .inl hn
  · refine .inr ⟨g, cap, cur, hv, hb, (setRow_other w q g d ?_).trans hgg, rest⟩
    intro e
    subst e
    exact hne (by rw [hv]; rfl)
end
/-- a row of numbers that 'append' takes -/
def SrcI (w : World) (v : Value) (zs : List Int) : Prop :=
  (v = .slice none 0 0 ∧ zs = []) ∨ ∃ b off cap, v = .slice (some ⟨b, off, none⟩) zs.length cap ∧ ∀ i, i < zs.length → w.cell? ⟨b, off + i, none⟩ = some (.int .i64 (zs.getD i 0))
theorem src_one (w : World) (x : Int) : SrcI (w.alloc (.cells #[.int .i64 x] 3)) (.slice (some ⟨w.heap.size, 0, none⟩) 1 1) [x] := by
  refine .inr ⟨w.heap.size, 0, 1, rfl, fun i hi => ?_⟩
  have hi : i = 0 := by simpa using hi
  subst hi
  exact (At.new w 3 #[.int .i64 x]).cell 0
theorem own_lit0 (w : World) {B : Nat} (hB : B ≤ w.heap.size) : OwnI (w.alloc (.cells #[] 3)) B (.slice (some ⟨w.heap.size, 0, none⟩) 0 0) [] := World.ownsRow_lit w #[] 0 hB (by decide) rfl
/-- 'append(a, b...)' of numbers -/
theorem append_ints {w : World} {B : Nat} {v u : Value} {zs us : List Int} (ty : TypeId) (ho : OwnI w B v zs) (hs : SrcI w u us) (hn : zs.length + us.length ≤ 1000000) (hB : B ≤ w.heap.size) :
    ∃ v' w', (Builtin.append_ #[36, 36] ty #[v, u]).run Try.prog w = .ok v' w' ∧ OwnI w' B v' (zs ++ us) ∧ w.grownBy w' v.ownBlock ∧ Lies w v v' := by
  obtain ⟨i3, hi3, hz0, hz1, hz2⟩ := info_parts info3
  rcases hs with ⟨rfl, rfl⟩ | ⟨b, off, cap, rfl, hc⟩
  · refine ⟨v, w, run_append_owned_none (P := Try.prog) (w := w) B 36 ty 3 i3 1 Try.underlying36 hi3 v zs.length _ ho, ?_, ⟨rfl, rfl, rfl, Nat.le_refl _, fun _ _ _ => rfl⟩, Lies.refl _ _⟩
    rw [List.append_nil]; exact ho
  · obtain ⟨v', w', hr, h2, h3, _, h5⟩ := run_append_own_at (P := Try.prog) w B 36 ty 3 i3 _ 1 8 Try.underlying36 hi3 hz0 hz1 hz2 rfl (by omega) v zs.length _ ho ⟨b, off, none⟩ us.length cap (us.map (Value.int .i64)) (by simp) (fun j u hu => by
        rw [List.getElem?_map] at hu
        rcases Nat.lt_or_ge j us.length with h | h
        · rw [add_at, hc j h]
          simp [List.getD, h] at hu ⊢
          exact hu
        · rw [List.getElem?_eq_none h] at hu; cases hu) (fun u hu => by obtain ⟨s, _, rfl⟩ := List.mem_map.1 hu; rfl) (by unfold maxLen; omega) (by omega) hB
    refine ⟨v', w', hr, ?_, h3, ?_⟩
    · unfold OwnI
      rw [List.map_append, List.length_append]
      exact h2
    · rcases h5 with h5 | h5
      · exact .inl h5
      · exact .inr ⟨_, h5, Nat.le_refl _⟩
/-- the state of BucketRate: the configuration, the bucket, the ticks at which there was one -/
structure RS (w wx : World) (p q : Nat) (c : Cfg) (b : Bt) (v : Value) (l : List Int) : Prop where
  cb : CB w wx p q c b
  own : OwnI wx w.heap.size v l
section
variable {w wx w1 : World} {p q : Nat} {c : Cfg} {b : Bt} {v : Value} {l : List Int}
theorem RS.step (h : RS w wx p q c b v l) (hb : Below wx.heap.size wx w1) : RS w w1 p q c b v l := ⟨h.cb.step hb, h.own.below hb⟩
theorem RS.put (h : RS w wx p q c b v l) (d : Bt) : RS w (wx.setRow q d.cells) p q c d v l := ⟨h.cb.put d, h.own.setRow h.cb.bt _⟩
theorem RS.app {x : Int} (h : RS w wx p q c b v l) (hn : l.length ≤ 1000) :
    ∃ v' w2, (Builtin.append_ #[36, 36] 36 #[v, .slice (some ⟨wx.heap.size, 0, none⟩) 1 1]).run Try.prog (wx.alloc (.cells #[.int .i64 x] 3)) = .ok v' w2 ∧ RS w w2 p q c b v' (l ++ [x]) ∧ ∀ s d, BtAt wx s d → BtAt w2 s d := by
  have hb : Below wx.heap.size wx (wx.alloc (.cells #[.int .i64 x] 3)) := below_new _ _
  have h' := h.step hb
  have hs := h'.cb.bel.size
  obtain ⟨v', w2, hr, h1, h2, h3⟩ := append_ints 36 h'.own (src_one wx x) (by simp; omega) hs
  have hc := Chg.grown h2
  refine ⟨v', w2, hr, ⟨⟨At.chg h'.cb.cf hc (own_ne h'.own h'.cb.cf (by decide)), At.chg h'.cb.bt hc (own_ne h'.own h'.cb.bt (by decide)), h'.cb.le, h'.cb.bel.trans (hc.toBelow hs (fun k hk e => ?_))⟩, h1⟩, fun s d hd => At.chg (hd.step hb) hc (own_ne h'.own (hd.step hb) (by decide))⟩
  have := (h'.own.lt e).1
  omega
end
end Go.Proofs.Ytepfgheliddpmaa
