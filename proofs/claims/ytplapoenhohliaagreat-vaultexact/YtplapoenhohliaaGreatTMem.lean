import Derived.Test.YtplapoenhohliaaGreatFind
import Derived.Deep.MidRow
import Derived.Test.YtplapoenhohliaaGreatSPlain
namespace Go.Proofs.YtplapoenhohliaaGreat.Sh
open Go.RowKit Go.Lib Plain
abbrev ptr (g : Nat) : Value := .pointer (some ⟨g, 0, none⟩)
def pc (x : KV) : Array Value := #[.int .i64 x.1, .int .i64 x.2.id, .int .i64 x.2.kind, .int .i64 x.2.frm, .int .i64 x.2.dto, .int .i64 x.2.car, .int .i64 x.2.st, .int .i64 x.2.own, .int .i64 x.2.born]
def PAt (w : World) (p : Nat) (x : KV) : Prop := At w p 119 (pc x)
def NAt (w : World) (g p : Nat) (vl vr : Value) (h : Nat) : Prop := At w g 137 #[ptr p, vl, vr, .int .i64 (h : Int)]
def TAt (w : World) (B : Nat) : Value → T → Prop
 | v, .nil => v = .pointer none
 | v, .node l p x r => ∃ g vl vr, v = ptr g ∧ g < B ∧ p < B ∧ NAt w g p vl vr (T.node l p x r).high ∧ PAt w p x ∧ TAt w B vl l ∧ TAt w B vr r
section
variable {w w' : World} {B g p : Nat} {v vl vr : Value} {t : T} {x : KV} {h : Nat}
theorem PAt.c0 (h : PAt w p x) : w.cell? ⟨p, 0, none⟩ = some (.int .i64 x.1) := by rw [At.cell h]; rfl
theorem pc_val (x : KV) {j : Nat} {u : Value} (h : x.2.cells[j]? = some u) : (pc x)[1 + j]? = some u := by
 have hj : j < 8 := (Array.getElem?_eq_some_iff.1 h).1
 match j, hj with
 | 0, _ => exact h
 | 1, _ => exact h
 | 2, _ => exact h
 | 3, _ => exact h
 | 4, _ => exact h
 | 5, _ => exact h
 | 6, _ => exact h
 | 7, _ => exact h
theorem PAt.val (h : PAt w p x) : w.rangeAt p 1 x.2.cells.toList := fun j u hu => by
 rw [At.cell h]
 exact pc_val x (by simpa using hu)
theorem PAt.all (h : PAt w p x) : w.cell? ⟨p, 1, none⟩ = some (.int .i64 x.2.id) ∧ w.cell? ⟨p, 2, none⟩ = some (.int .i64 x.2.kind) ∧ w.cell? ⟨p, 3, none⟩ = some (.int .i64 x.2.frm) ∧ w.cell? ⟨p, 4, none⟩ = some (.int .i64 x.2.dto) ∧ w.cell? ⟨p, 5, none⟩ = some (.int .i64 x.2.car) ∧ w.cell? ⟨p, 6, none⟩ = some (.int .i64 x.2.st) ∧ w.cell? ⟨p, 7, none⟩ = some (.int .i64 x.2.own) ∧ w.cell? ⟨p, 8, none⟩ = some (.int .i64 x.2.born) := by
 refine ⟨?_, ?_, ?_, ?_, ?_, ?_, ?_, ?_⟩ <;> (rw [At.cell h]; rfl)
theorem PAt.kid (h : PAt w p x) : w.cell? ⟨p, 1, none⟩ = some (.int .i64 x.2.id) := by rw [At.cell h]; rfl
theorem NAt.c0 (k : NAt w g p vl vr h) : w.cell? ⟨g, 0, none⟩ = some (ptr p) := by rw [At.cell k]; rfl
theorem NAt.c1 (k : NAt w g p vl vr h) : w.cell? ⟨g, 1, none⟩ = some vl := by rw [At.cell k]; rfl
theorem NAt.c2 (k : NAt w g p vl vr h) : w.cell? ⟨g, 2, none⟩ = some vr := by rw [At.cell k]; rfl
theorem NAt.c3 (k : NAt w g p vl vr h) : w.cell? ⟨g, 3, none⟩ = some (.int .i64 (h : Int)) := by rw [At.cell k]; rfl
theorem PAt.keep (h : PAt w p x) (hb : Below B w w') (hp : p < B) : PAt w' p x := At.below h hb hp
theorem NAt.keep (k : NAt w g p vl vr h) (hb : Below B w w') (hg : g < B) : NAt w' g p vl vr h := At.below k hb hg
theorem TAt.keep {B' : Nat} : ∀ {t : T} {v : Value}, TAt w B v t → Below B' w w' → B ≤ B' → TAt w' B v t
 | .nil, _, h, _, _ => h
 | .node l p x r, v, h, hb, hB => by
  obtain ⟨g, vl, vr, rfl, hg, hp, hn, hx, hl, hr⟩ := h
  exact ⟨g, vl, vr, rfl, hg, hp, hn.keep hb (by omega), hx.keep hb (by omega), hl.keep hb hB, hr.keep hb hB⟩
theorem TAt.mono {B' : Nat} : ∀ {t : T} {v : Value}, TAt w B v t → B ≤ B' → TAt w B' v t
 | .nil, _, h, _ => h
 | .node l p x r, v, h, hB => by
  obtain ⟨g, vl, vr, rfl, hg, hp, hn, hx, hl, hr⟩ := h
  exact ⟨g, vl, vr, rfl, by omega, by omega, hn, hx, hl.mono hB, hr.mono hB⟩
theorem TAt.step (h : TAt w w.heap.size v t) (hb : Below w.heap.size w w') : TAt w' w'.heap.size v t := (h.keep hb (Nat.le_refl _)).mono hb.size
theorem PAt.lt (h : PAt w p x) : p < w.heap.size := At.lt h
theorem PAt.step (h : PAt w p x) (hb : Below w.heap.size w w') : PAt w' p x := h.keep hb h.lt
theorem TAt.form (h : TAt w B v t) : (v = .pointer none ∧ t = .nil) ∨ ∃ g l p x r vl vr, v = ptr g ∧ t = .node l p x r ∧ g < B ∧ p < B ∧ NAt w g p vl vr t.high ∧ PAt w p x ∧ TAt w B vl l ∧ TAt w B vr r := by
 cases t with
 | nil => exact .inl ⟨h, rfl⟩
 | node l p x r =>
  obtain ⟨g, vl, vr, rfl, hg, hp, hn, hx, hl, hr⟩ := h
  exact .inr ⟨g, l, p, x, r, vl, vr, rfl, rfl, hg, hp, hn, hx, hl, hr⟩
theorem TAt.ptr (h : TAt w B v t) : ∃ o, v = .pointer o := by
 rcases h.form with ⟨rfl, _⟩ | ⟨g, l, p, x, r, vl, vr, rfl, _⟩
 ·exact ⟨_, rfl⟩
 ·exact ⟨_, rfl⟩
theorem TAt.its_at : ∀ {t : T} {v : Value}, TAt w B v t → ∀ y ∈ t.its, y.1 < B ∧ PAt w y.1 y.2
 | .nil, _, _, y, hy => by simp [T.its] at hy
 | .node l p x r, v, h, y, hy => by
  obtain ⟨g, vl, vr, rfl, hg, hp, hn, hx, hl, hr⟩ := h
  simp only [T.its, List.mem_append, List.mem_cons] at hy
  rcases hy with hy | rfl | hy
  ·exact hl.its_at y hy
  ·exact ⟨hp, hx⟩
  ·exact hr.its_at y hy
end
end Go.Proofs.YtplapoenhohliaaGreat.Sh
