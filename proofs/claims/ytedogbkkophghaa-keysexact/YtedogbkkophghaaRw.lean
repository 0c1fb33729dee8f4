/- Rows of things that a call owns, or reads: of pointers, of texts, of pairs. No Go text. -/
import Derived.Test.YtedogbkkophghaaTMem
import Derived.ProofKit
import Derived.OpenShut
import Derived.ShutString
import Derived.ChangeSlices
import Derived.Deep.Grids
import Derived.Deep.DrawnRows
import Derived.Lib.AppendZeros
import Derived.Maps.AppendAt
namespace Go.Proofs.Ytedogbkkophghaa.Sh
open Go.RowKit Go.Lib Plain
set_option linter.unusedVariables false

/-- a kind of element: the slice's type, its own, how many cells and bytes, and which cells -/
structure El (α : Type) where
  ts : TypeId
  e : TypeId
  s : Nat
  b : Nat
  z : Value
  enc : α → List Value
  len : ∀ x, (enc x).length = s
  one : ∀ x, ∀ u ∈ enc x, u.oneCell' = true
  pos : 0 < s
  hts : Try.prog.underlying ts = some (.slice e)
  info : ∃ i, Try.prog.info? e = some i ∧ i.zero = some z ∧ i.size = s ∧ i.bytes = b
  zs : z.cells.size = s
  hb : b ≤ 1000
theorem info_of {e : TypeId} {z : Value} {s b : Nat} (h : (Try.prog.info? e).map (fun i => (i.zero, i.size, i.bytes)) = some (some z, s, b)) : ∃ i, Try.prog.info? e = some i ∧ i.zero = some z ∧ i.size = s ∧ i.bytes = b := by
  obtain ⟨i, hi, h0, h1, h2⟩ := info_parts h
  exact ⟨i, hi, h0, h1, h2⟩
def eP : El Nat := ⟨104, 91, 1, 8, .pointer none, fun p => [ptr p], fun _ => rfl, by simp [Value.oneCell'], by decide, Try.underlying104, info_of (by kernel_rfl), rfl, by decide⟩

section
variable {α : Type} {E : El α} {w w' : World} {B : Nat} {v : Value} {xs : List α}
/-- a row that a call owns, from block B on -/
def Own (E : El α) (w : World) (B : Nat) (v : Value) (xs : List α) : Prop := w.ownsRow B E.e E.s v xs.length (xs.flatMap E.enc)
/-- a row that can be read -/
def Rd (E : El α) (w : World) (v : Value) (xs : List α) : Prop :=
  ∃ O cap, v = .slice O xs.length cap ∧ xs.length ≤ cap ∧ ∀ i x, xs[i]? = some x → ∃ b off, O = some ⟨b, off, none⟩ ∧ b < w.heap.size ∧ ∀ j u, (E.enc x)[j]? = some u → w.cell? ⟨b, off + i * E.s + j, none⟩ = some u
theorem flat_length (E : El α) : ∀ xs : List α, (xs.flatMap E.enc).length = xs.length * E.s
  | [] => by simp
  | x :: xs => by rw [List.flatMap_cons, List.length_append, E.len, flat_length E xs, List.length_cons, Nat.add_mul]; omega
theorem flat_get (E : El α) : ∀ (xs : List α) (i j : Nat) (x : α) (u : Value), xs[i]? = some x → (E.enc x)[j]? = some u → (xs.flatMap E.enc)[i * E.s + j]? = some u
  | [], i, j, x, u, h, _ => by simp at h
  | y :: xs, 0, j, x, u, h, k => by
    have : y = x := by simpa using h
    subst this
    rw [List.flatMap_cons, List.getElem?_append_left (by have := (List.getElem?_eq_some_iff.1 k).1; omega), Nat.zero_mul, Nat.zero_add]
    exact k
  | y :: xs, i + 1, j, x, u, h, k => by
    rw [List.flatMap_cons, List.getElem?_append_right (by rw [E.len, Nat.add_mul]; omega), E.len, show (i + 1) * E.s + j - E.s = i * E.s + j by rw [Nat.add_mul]; omega]
    exact flat_get E xs i j x u (by simpa using h) k
theorem add_at (b off i : Nat) : (⟨b, off, none⟩ : Addr).add i = ⟨b, off + i, none⟩ := by
  unfold Addr.add
  by_cases h1 : i = 0 <;> simp [h1]
theorem Own.form (h : Own E w B v xs) : (v = .slice none 0 0 ∧ xs = []) ∨ ∃ g cap, v = .slice (some ⟨g, 0, none⟩) xs.length cap ∧ xs.length ≤ cap ∧ B ≤ g ∧ g < w.heap.size := by
  rcases h.2 with ⟨rfl, h0⟩ | ⟨g, cap, cur, rfl, hb, hg, hn, _⟩
  · exact .inl ⟨rfl, List.length_eq_zero_iff.1 h0⟩
  · exact .inr ⟨g, cap, rfl, hn, hb, (Array.getElem?_eq_some_iff.1 hg).1⟩
theorem Own.rd (h : Own E w B v xs) : Rd E w v xs := by
  rcases h.form with ⟨rfl, rfl⟩ | ⟨g, cap, rfl, hc, _, hg⟩
  · exact ⟨none, 0, rfl, Nat.le_refl _, fun i x hx => by simp at hx⟩
  · refine ⟨_, cap, rfl, hc, fun i x hx => ⟨g, 0, rfl, hg, fun j u hu => ?_⟩⟩
    have := World.ownsRow.cells h (g := g) rfl (i * E.s + j) u (flat_get E xs i j x u hx hu)
    rw [add_at, ← Nat.add_assoc] at this
    exact this
theorem Own.chg {S : Nat → Prop} (h : Own E w B v xs) (hc : Chg w w' S) (hv : ∀ k, v.ownBlock = some k → ¬ S k) : Own E w' B v xs := own_chg h hc hv
theorem Own.below (h : Own E w B v xs) (hb : Below w.heap.size w w') : Own E w' B v xs := own_chg h (Chg.ofBelow hb (fun _ => False)) (fun _ _ h => h)
theorem Own.lt (h : Own E w B v xs) {g : Nat} (hg : v.ownBlock = some g) : B ≤ g ∧ g < w.heap.size := World.ownsRow.lt h g hg
theorem Own.mono {B' : Nat} (h : Own E w B v xs) (hB : B' ≤ B) : Own E w B' v xs := by
  refine ⟨h.1, ?_⟩
  rcases h.2 with hn | ⟨g, cap, cur, hv, hb, rest⟩
  · exact .inl hn
  · exact .inr ⟨g, cap, cur, hv, by omega, rest⟩
theorem Own.nil (E : El α) (w : World) (B : Nat) : Own E w B (.slice none 0 0) [] := World.ownsRow_nil w B E.e E.s
theorem Own.lit0 (E : El α) (w : World) {B : Nat} (hB : B ≤ w.heap.size) : Own E (w.alloc (.cells #[] E.e)) B (.slice (some ⟨w.heap.size, 0, none⟩) 0 0) [] := World.ownsRow_lit w #[] 0 hB (by decide) (by simp)
theorem Rd.below (h : Rd E w v xs) (hb : Below w.heap.size w w') : Rd E w' v xs := by
  obtain ⟨O, cap, rfl, hc, h⟩ := h
  refine ⟨O, cap, rfl, hc, fun i x hx => ?_⟩
  obtain ⟨b, off, rfl, hlt, k⟩ := h i x hx
  exact ⟨b, off, rfl, Nat.lt_of_lt_of_le hlt hb.size, fun j u hu => (hb.cell (p := ⟨b, _, none⟩) hlt).trans (k j u hu)⟩
theorem Rd.drewN (h : Rd E w v xs) (n : Nat) : Rd E (w.drewN n) v xs := h.below (below_drewN (Below.refl _ _) n)
/-- 'append' of one thing -/
theorem Own.push {x : α} (h : Own E w B v xs) (hB : B ≤ w.heap.size) {b off cap : Nat} (hc : ∀ j u, (E.enc x)[j]? = some u → w.cell? ⟨b, off + j, none⟩ = some u) (hn : xs.length ≤ 1000000) (ty : TypeId) :
    ∃ v' w', (Builtin.append_ #[E.ts, E.ts] ty #[v, .slice (some ⟨b, off, none⟩) 1 cap]).run Try.prog w = .ok v' w' ∧ Own E w' B v' (xs ++ [x]) ∧ Chg w w' (fun k => v.ownBlock = some k) ∧ Lies w v v' := by
  obtain ⟨i, hi, hz, hs, hb⟩ := E.info
  have h24 := E.hb
  obtain ⟨v', w', hr, h2, h3, _, h5⟩ := run_append_own_at (P := Try.prog) w B E.ts ty E.e i _ E.s E.b E.hts hi hz hs hb E.zs E.pos v xs.length _ h ⟨b, off, none⟩ 1 cap (E.enc x) (by rw [E.len]; omega)
    (fun j u hu => by rw [add_at]; exact hc j u hu) (E.one x) (by unfold maxLen; omega) (by
      have : (xs.length + 1) * E.b ≤ 1000001 * 1000 := Nat.mul_le_mul (by omega) h24
      omega) hB
  refine ⟨v', w', hr, ?_, Chg.grown h3, ?_⟩
  · unfold Own
    rw [List.length_append, List.flatMap_append, List.flatMap_singleton]
    exact h2
  · rcases h5 with h5 | h5
    · exact .inl h5
    · exact .inr ⟨_, h5, Nat.le_refl _⟩
/-- 'append(a, b...)' -/
theorem Own.join {u : Value} {us : List α} (h : Own E w B v xs) (hB : B ≤ w.heap.size) (hs : (u = .slice none 0 0 ∧ us = []) ∨ ∃ b off cap, u = .slice (some ⟨b, off, none⟩) us.length cap ∧ ∀ i x, us[i]? = some x → ∀ j y, (E.enc x)[j]? = some y → w.cell? ⟨b, off + i * E.s + j, none⟩ = some y) (hn : xs.length + us.length ≤ 1000000) (ty : TypeId) :
    ∃ v' w', (Builtin.append_ #[E.ts, E.ts] ty #[v, u]).run Try.prog w = .ok v' w' ∧ Own E w' B v' (xs ++ us) ∧ Chg w w' (fun k => v.ownBlock = some k) ∧ Lies w v v' := by
  obtain ⟨i, hi, hz, hsz, hb⟩ := E.info
  have h24 := E.hb
  rcases hs with ⟨rfl, rfl⟩ | ⟨b, off, cap, rfl, hc⟩
  · refine ⟨v, w, run_append_owned_none (P := Try.prog) (w := w) B E.ts ty E.e i E.s E.hts hi v xs.length _ h, ?_, Chg.refl _ _, Lies.refl _ _⟩
    rw [List.append_nil]; exact h
  · obtain ⟨v', w', hr, h2, h3, _, h5⟩ := run_append_own_at (P := Try.prog) w B E.ts ty E.e i _ E.s E.b E.hts hi hz hsz hb E.zs E.pos v xs.length _ h ⟨b, off, none⟩ us.length cap (us.flatMap E.enc) (flat_length E us)
      (fun j y hy => by
        have hpos := E.pos
        have hj : j < us.length * E.s := by have := (List.getElem?_eq_some_iff.1 hy).1; rwa [flat_length] at this
        have hq : j / E.s < us.length := Nat.div_lt_of_lt_mul (by rw [Nat.mul_comm]; exact hj)
        have hm : j % E.s < E.s := Nat.mod_lt _ hpos
        have hd : j / E.s * E.s + j % E.s = j := by rw [Nat.mul_comm]; exact Nat.div_add_mod j E.s
        have hx : us[j / E.s]? = some us[j / E.s] := List.getElem?_eq_getElem hq
        have hy2 : (E.enc us[j / E.s])[j % E.s]? = some y := by
          cases hh : (E.enc us[j / E.s])[j % E.s]? with
          | none => rw [List.getElem?_eq_none_iff, E.len] at hh; omega
          | some y2 =>
            have := flat_get E us _ _ _ _ hx hh
            rw [hd, hy] at this
            exact this.symm ▸ rfl
        have := hc _ _ hx _ _ hy2
        rw [add_at, ← hd, ← Nat.add_assoc]
        exact this)
      (fun u hu => by
        obtain ⟨x, _, hx⟩ := List.mem_flatMap.1 hu
        exact E.one x u hx) (by unfold maxLen; omega) (by
        have : (xs.length + us.length) * E.b ≤ 1000000 * 1000 := Nat.mul_le_mul hn h24
        omega) hB
    refine ⟨v', w', hr, ?_, Chg.grown h3, ?_⟩
    · unfold Own
      rw [List.length_append, List.flatMap_append]
      exact h2
    · rcases h5 with h5 | h5
      · exact .inl h5
      · exact .inr ⟨_, h5, Nat.le_refl _⟩
/-- 'make' of none, with room -/
theorem made (E : El α) (n : Nat) (hn : n ≤ 1000000) : ∃ M : Array Value, (∀ W : World, (Instr.makeSlice E.ts (.int .i64 0) (.int .i64 (n : Int))).run Try.prog W = .ok (.slice (some ⟨W.heap.size, 0, none⟩) 0 n) (W.alloc (.cells M E.e))) ∧ ∀ (W : World) (B : Nat), B ≤ W.heap.size → Own E (W.alloc (.cells M E.e)) B (.slice (some ⟨W.heap.size, 0, none⟩) 0 n) [] := by
  obtain ⟨i, hi, hz, hs, hb⟩ := E.info
  have h24 := E.hb
  refine ⟨madeCells E.z.cells (n * E.s), fun W => ?_, fun W B hB => ?_⟩
  · have h := run_make (P := Try.prog) W E.ts E.e i E.z E.hts hi hz .i64 .i64 0 (n : Int) (by omega) (by omega) (by
      rw [hb]
      have : (E.b * n : Nat) ≤ 1000 * 1000000 := Nat.mul_le_mul h24 hn
      have e : (E.b : Int) * (n : Int) = ((E.b * n : Nat) : Int) := by simp
      omega) (by omega)
    rw [hs] at h
    simpa using h
  · exact ⟨by simp, .inr ⟨W.heap.size, n, _, rfl, hB, heap_alloc_new W _, Nat.zero_le _, by unfold maxLen; omega, by rw [size_madeCells], by simp⟩⟩
theorem _root_.Go.Proofs.Ytedogbkkophghaa.Chg.below' {B : Nat} (h : Chg w w' (fun k => v.ownBlock = some k)) (ho : Own E w B v xs) (hB : B ≤ w.heap.size) : Below B w w' := h.toBelow hB (fun k hk e => by have := (ho.lt e).1; omega)
end
end Go.Proofs.Ytedogbkkophghaa.Sh
