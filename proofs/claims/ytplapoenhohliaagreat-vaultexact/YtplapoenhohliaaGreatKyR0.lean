import Derived.Test.YtplapoenhohliaaGreatTrI
import Derived.Test.YtplapoenhohliaaGreatOrder7
import Derived.Laws.Append
import Derived.Laws.AppendOwn
namespace Go.Proofs.YtplapoenhohliaaGreat.Sh
open Go.RowKit Go.Lib Plain
set_option linter.unusedVariables false
set_option linter.unusedSimpArgs false
section
variable {α : Type} {E : El α} {w w' : World} {B : Nat} {v : Value} {xs : List α}
theorem Own.kept {x : α} (h : Own E w B v xs) {b off cap : Nat} (hc : ∀ j u, (E.enc x)[j]? = some u → w.cell? ⟨b, off + j, none⟩ = some u) (hn : xs.length ≤ 1000000) (ty : TypeId) {v' : Value}
  (hr : (Builtin.append_ #[E.ts, E.ts] ty #[v, .slice (some ⟨b, off, none⟩) 1 cap]).run Tryz.prog w = .ok v' w') : Own E w' B v xs := by
 obtain ⟨i, hi, hz, hs, hb⟩ := E.info
 have h24 := E.hb
 have hpos := E.pos
 have hnews : ∀ j u, (E.enc x)[j]? = some u → w.cell? ((⟨b, off, none⟩ : Addr).add j) = some u := fun j u hu => by rw [add_at]; exact hc j u hu
 rcases h.2 with ⟨rfl, h0⟩ | ⟨g', cap', cur, rfl, hbg, hg, hnc, hcm, hcs, htake⟩
 ·have : xs = [] := List.eq_nil_of_length_eq_zero h0
  subst this
  exact Own.nil E w' B
 ·have hfl : (xs.flatMap E.enc).length = xs.length * E.s := flat_length E xs
  by_cases hroom : xs.length + 1 ≤ cap'
  ·have hl : (E.enc x).length = 1 * i.size := by rw [E.len, hs]; omega
   have hm : (xs.length + 1) * E.s ≤ cap' * E.s := Nat.mul_le_mul_right _ hroom
   have hfit : xs.length * i.size + (E.enc x).length ≤ cur.size := by rw [hs, hcs, E.len]; rw [Nat.add_mul] at hm; omega
   have hr' := run_append_room (P := Tryz.prog) w E.ts ty E.e i E.hts hi g' xs.length cap' cur hg ⟨b, off, none⟩ 1 cap (E.enc x) hl hnews (E.one x) hroom hfit
   rw [hr'] at hr
   injection hr with _ hw
   subst hw
   refine ⟨h.1, .inr ⟨g', cap', _, rfl, hbg, setRow_heap w g' cur _ E.e _ hg, hnc, hcm, ?_, ?_⟩⟩
   ·rw [hs] at hfit ⊢
    simp only [List.size_toArray, List.length_append, List.length_take, List.length_drop, Array.length_toList] at hfit ⊢
    omega
   ·rw [hs]
    have e1 : (cur.toList.take (xs.length * E.s)).length = xs.length * E.s := by rw [htake, hfl]
    show List.take (xs.length * E.s) _ = _
    rw [List.append_assoc, List.take_append_of_le_length (by omega), List.take_take, Nat.min_self]
    exact htake
  ·have hmul : (xs.length + 1) * E.b ≤ 1000001 * 1000 := Nat.mul_le_mul (by omega) h24
   have hr' := run_append_grow (P := Tryz.prog) w E.ts ty E.e i _ E.hts hi hz ⟨g', 0, none⟩ xs.length cap' (xs.flatMap E.enc) (by rw [hs, hfl]) (h.cells (g := g') rfl) ⟨b, off, none⟩ 1 cap (E.enc x) (by rw [hs, E.len]; omega) hnews (by omega) (by omega) (by rw [hb]; exact growslice_fits (by omega) (by omega))
   rw [hr'] at hr
   injection hr with _ hw
   subst hw
   exact World.ownsRow.alloc (World.ownsRow.drew h) _
theorem Own.same {u : Value} {ys : List α} (h : Own E w B v xs) (k : Own E w B u ys) (hl : xs.length = ys.length) {g : Nat} (h1 : v.ownBlock = some g) (h2 : u.ownBlock = some g) : v = u := by
 rcases h.2 with ⟨rfl, _⟩ | ⟨g1, cap1, cur1, rfl, _, hg1, _, _, hcs1, _⟩
 ·simp [Value.ownBlock] at h1
 ·rcases k.2 with ⟨rfl, _⟩ | ⟨g2, cap2, cur2, rfl, _, hg2, _, _, hcs2, _⟩
  ·simp [Value.ownBlock] at h2
  ·have e1 : g1 = g := by simpa [Value.ownBlock] using h1
   have e2 : g2 = g := by simpa [Value.ownBlock] using h2
   subst e1; subst e2
   rw [hg1] at hg2
   injection hg2 with hg2
   injection hg2 with hg2
   subst hg2
   have : cap1 = cap2 := by
    have := hcs1.symm.trans hcs2
    exact Nat.eq_of_mul_eq_mul_right E.pos this
   rw [this, hl]
def Stays (E : El α) (B : Nat) (xs : List α) (w w' : World) : Prop := Below B w w' ∧ ∀ v, Own E w B v xs → Own E w' B v xs
theorem Own.push_stays {x : α} (h : Own E w B v xs) (hB : B ≤ w.heap.size) {b off cap : Nat} (hc : ∀ j u, (E.enc x)[j]? = some u → w.cell? ⟨b, off + j, none⟩ = some u) (hn : xs.length ≤ 1000000) (ty : TypeId) :
  ∃ v' w', (Builtin.append_ #[E.ts, E.ts] ty #[v, .slice (some ⟨b, off, none⟩) 1 cap]).run Tryz.prog w = .ok v' w' ∧ Own E w' B v' (xs ++ [x]) ∧ Stays E B xs w w' ∧ Chg w w' (fun k => v.ownBlock = some k) := by
 obtain ⟨v', w', hr, ho, hc', hl⟩ := h.push hB hc hn ty
 refine ⟨v', w', hr, ho, ⟨hc'.below' h hB, fun u hu => ?_⟩, hc'⟩
 cases hg : v.ownBlock with
 | none => exact hu.chg hc' (fun k _ e => by rw [hg] at e; cases e)
 | some g =>
  by_cases hug : u.ownBlock = some g
  ·have := Own.same h hu rfl hg hug
   subst this
   exact h.kept hc hn ty hr
  ·exact hu.chg hc' (fun k hk e => by rw [hg] at e; injection e with e; subst e; exact hug hk)
set_option maxRecDepth 100000 in
theorem Own.push_ways {x : α} (h : Own E w B v xs) (hB : B ≤ w.heap.size) {b off cap : Nat} (hc : ∀ j u, (E.enc x)[j]? = some u → w.cell? ⟨b, off + j, none⟩ = some u) (hn : xs.length ≤ 1000000) (ty : TypeId) {v' : Value}
  (hr : (Builtin.append_ #[E.ts, E.ts] ty #[v, .slice (some ⟨b, off, none⟩) 1 cap]).run Tryz.prog w = .ok v' w') :
  Below w.heap.size w w' ∨ ∃ g cp cur, v = .slice (some ⟨g, 0, none⟩) xs.length cp ∧ v' = .slice (some ⟨g, 0, none⟩) (xs.length + 1) cp ∧ w.heap[g]? = some (.cells cur E.e (0, 0)) ∧ cur.size = cp * E.s ∧ xs.length + 1 ≤ cp ∧
   w' = w.setRow g (cur.toList.take (xs.length * E.s) ++ E.enc x ++ cur.toList.drop (xs.length * E.s + (E.enc x).length)).toArray := by
 obtain ⟨i, hi, hz, hs, hb⟩ := E.info
 have h24 := E.hb
 have hpos := E.pos
 have hnews : ∀ j u, (E.enc x)[j]? = some u → w.cell? ((⟨b, off, none⟩ : Addr).add j) = some u := fun j u hu => by rw [add_at]; exact hc j u hu
 rcases h.2 with ⟨rfl, h0⟩ | ⟨g', cap', cur, rfl, hbg, hg, hnc, hcm, hcs, htake⟩
 ·left
  obtain ⟨v1, w1, hr1, _, hc1, _⟩ := h.push hB hc hn ty
  rw [hr] at hr1
  injection hr1 with _ e
  subst e
  exact hc1.toBelow (Nat.le_refl _) (fun k _ e => by simp [Value.ownBlock] at e)
 ·have hfl : (xs.flatMap E.enc).length = xs.length * E.s := flat_length E xs
  by_cases hroom : xs.length + 1 ≤ cap'
  ·right
   have hl : (E.enc x).length = 1 * i.size := by rw [E.len, hs]; omega
   have hm : (xs.length + 1) * E.s ≤ cap' * E.s := Nat.mul_le_mul_right _ hroom
   have hfit : xs.length * i.size + (E.enc x).length ≤ cur.size := by rw [hs, hcs, E.len]; rw [Nat.add_mul] at hm; omega
   have hr' := run_append_room (P := Tryz.prog) w E.ts ty E.e i E.hts hi g' xs.length cap' cur hg ⟨b, off, none⟩ 1 cap (E.enc x) hl hnews (E.one x) hroom hfit
   rw [hr'] at hr
   injection hr with e1 e2
   exact ⟨g', cap', cur, rfl, e1.symm, hg, hcs, hroom, by rw [← e2, hs]⟩
  ·left
   have hmul : (xs.length + 1) * E.b ≤ 1000001 * 1000 := Nat.mul_le_mul (by omega) h24
   have hr' := run_append_grow (P := Tryz.prog) w E.ts ty E.e i _ E.hts hi hz ⟨g', 0, none⟩ xs.length cap' (xs.flatMap E.enc) (by rw [hs, hfl]) (h.cells (g := g') rfl) ⟨b, off, none⟩ 1 cap (E.enc x) (by rw [hs, E.len]; omega) hnews (by omega) (by omega) (by rw [hb]; exact growslice_fits (by omega) (by omega))
   rw [hr'] at hr
   injection hr with _ hw
   subst hw
   exact ((Below.refl _ _).drew).alloc (Nat.le_refl _) _
structure Apd (E : El α) (B : Nat) (xs : List α) (x : α) (w w' : World) : Prop where
 bel : Below B w w'
 old : ∀ v, Own E w B v xs → Own E w' B v xs
 new : ∀ v, Own E w B v (xs ++ [x]) → Own E w' B v (xs ++ [x])
 one : ∀ q, At w q E.e (E.enc x).toArray → At w' q E.e (E.enc x).toArray
theorem Apd.refl (E : El α) (B : Nat) (xs : List α) (x : α) (w : World) : Apd E B xs x w w := ⟨Below.refl _ _, fun _ h => h, fun _ h => h, fun _ h => h⟩
theorem Apd.of_below {x : α} (hb : Below w.heap.size w w') (hB : B ≤ w.heap.size) : Apd E B xs x w w' := ⟨hb.mono hB, fun _ h => h.below hb, fun _ h => h.below hb, fun q h => At.below h hb (At.lt h)⟩
set_option maxRecDepth 100000 in
theorem Own.push_apd {x : α} (h : Own E w B v xs) (hB : B ≤ w.heap.size) {b off cap : Nat} (hc : ∀ j u, (E.enc x)[j]? = some u → w.cell? ⟨b, off + j, none⟩ = some u) (hn : xs.length ≤ 1000000) (ty : TypeId) :
  ∃ v' w', (Builtin.append_ #[E.ts, E.ts] ty #[v, .slice (some ⟨b, off, none⟩) 1 cap]).run Tryz.prog w = .ok v' w' ∧ Own E w' B v' (xs ++ [x]) ∧ Apd E B xs x w w' := by
 obtain ⟨v', w', hr, ho, hst, hch⟩ := h.push_stays hB hc hn ty
 refine ⟨v', w', hr, ho, ?_⟩
 rcases h.push_ways hB hc hn ty hr with hb | ⟨g, cp, cur, rfl, rfl, hg, hcs, hroom, hw⟩
 ·exact Apd.of_below hb hB
 ·refine ⟨hst.1, hst.2, fun u hu => ?_, fun q hq => ?_⟩
  ·by_cases hug : u.ownBlock = some g
   ·rcases hu.2 with ⟨rfl, _⟩ | ⟨g2, cap2, cur2, rfl, _, hg2, _, _, hcs2, _⟩
    ·simp [Value.ownBlock] at hug
    ·have e2 : g2 = g := by simpa [Value.ownBlock] using hug
     subst e2
     rw [hg] at hg2
     injection hg2 with hg2
     injection hg2 with hg2
     subst hg2
     have : cp = cap2 := Nat.eq_of_mul_eq_mul_right E.pos (hcs.symm.trans hcs2)
     subst this
     rw [List.length_append]
     exact ho
   ·exact hu.chg hch (fun k hk e => by simp [Value.ownBlock] at e; subst e; exact hug hk)
  ·by_cases hqg : q = g
   ·subst hqg
    have e : Obj.cells cur E.e (0, 0) = Obj.cells (E.enc x).toArray E.e (0, 0) := Option.some.inj (hg.symm.trans hq)
    injection e with e
    subst e
    have h1 : cp = 1 := by
     have h2 : (E.enc x).toArray.size = E.s := by simp [E.len]
     rw [h2] at hcs
     have h3 : 1 * E.s = cp * E.s := by omega
     exact (Nat.eq_of_mul_eq_mul_right E.pos h3).symm
    have h0 : xs.length = 0 := by omega
    rw [hw]
    have hrow : ((E.enc x).toArray.toList.take (xs.length * E.s) ++ E.enc x ++ (E.enc x).toArray.toList.drop (xs.length * E.s + (E.enc x).length)).toArray = (E.enc x).toArray := by
     rw [h0]; simp
    rw [hrow]
    exact setRow_heap w q (E.enc x).toArray (E.enc x).toArray E.e (0, 0) hq
   ·exact At.chg hq hch (fun e => by simp [Value.ownBlock] at e; exact hqg e.symm)
end
end Go.Proofs.YtplapoenhohliaaGreat.Sh
