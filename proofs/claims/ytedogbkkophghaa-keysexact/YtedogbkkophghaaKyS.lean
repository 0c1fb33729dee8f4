/- Words for the statements' loops: what With answers, in memory; a deed of a row; the tick. -/
import Derived.Test.YtedogbkkophghaaKyP
namespace Go.Proofs.Ytedogbkkophghaa
open Go.RowKit Go.Lib
open Sh.Plain (KV get put Rise)
set_option linter.unusedVariables false
set_option linter.unusedSimpArgs false

theorem run_alloc_ky {ρ : Operand → Value} {w : World} {d : Option Tmp} {t : TypeId} {pos : String} {af : Array Edge} {gd : Option (Nat × Bool)} : (execOp ρ { dst := d, op := Op.alloc 31, type := t, pos := pos, after := af, guard := gd }).run Try.prog w = .ok (.value (ptr w.heap.size 0)) (w.alloc (.cells (zy.cells none) 31)) := by
  simp [execOp, go_sem]
  rfl
theorem run_store_ky {ρ : Operand → Value} {w : World} {x y : Tmp} {d : Option Tmp} {t : TypeId} {pos : String} {af : Array Edge} {gd : Option (Nat × Bool)} {q : Nat} {b z : Ky} {o o' : Option Addr} (e1 : ρ (.tmp x) = ptr q 0) (e2 : ρ (.tmp y) = b.V o) (hq : KyAt w q z o') : (execOp ρ { dst := d, op := Op.store 31 (.tmp x) (.tmp y), type := t, pos := pos, after := af, guard := gd }).run Try.prog w = .ok .skip (w.setRow q (b.cells o)) := by
  unfold execOp
  simp only [e1, e2, Instr.storeAt, Instr.sureAddr, Sem.run_bind, Sem.run_pure, Result.andThen_ok, run_storeVar_row w q 31 31 (z.cells o') (b.cells o) hq (sizeY b o) (by rw [z.size, b.size]) (b.one o)]
/-- what With answers, as a tuple; the keys of it -/
def KvAt (r : Ky × Int) (v : Value) (w : World) : Prop := ∃ o, v = .tuple #[r.1.V o, .int .i64 r.2] ∧ YAt w r.1 o
theorem KvAt.keep {r : Ky × Int} {v : Value} {w w' : World} (h : KvAt r v w) (hb : Below w.heap.size w w') : KvAt r v w' := by
  obtain ⟨o, rfl, h⟩ := h
  exact ⟨o, rfl, h.step hb⟩
def KwAt (b : Ky) (v : Value) (w : World) : Prop := ∃ o, v = b.V o ∧ YAt w b o
theorem KwAt.keep {b : Ky} {v : Value} {w w' : World} (h : KwAt b v w) (hb : Below w.heap.size w w') : KwAt b v w' := by
  obtain ⟨o, rfl, h⟩ := h
  exact ⟨o, rfl, h.step hb⟩
/-- a deed of a row that came in -/
theorem ActsAt.row {w : World} {B : Nat} {A : Option Addr} {ds : List Ac} (h : ActsAt w B A ds) {j : Nat} {y : Ac} (hy : ds[j]? = some y) : ∃ b off, A = some ⟨b, off, none⟩ ∧ b < B ∧ w.rangeAt b (off + j * 5) y.cells.toList := by
  have hj : j < ds.length := (List.getElem?_eq_some_iff.1 hy).1
  obtain ⟨b, off, e, hb, k⟩ := h j hj
  rw [List.getD_eq_getElem?_getD, hy] at k
  exact ⟨b, off, e, hb, k⟩
theorem Ac.rows {w : World} {b off : Nat} {y : Ac} (h : w.rangeAt b off y.cells.toList) : w.cell? ⟨b, off, none⟩ = some (.int .i64 y.kind) ∧ w.cell? ⟨b, off + 1, none⟩ = some (.int .i64 y.now) ∧ w.cell? ⟨b, off + 2, none⟩ = some (.int .i64 y.who) ∧ w.cell? ⟨b, off + 3, none⟩ = some (.int .u64 y.key) ∧ w.cell? ⟨b, off + 4, none⟩ = some (.string y.body) :=
  ⟨h 0 _ rfl, h 1 _ rfl, h 2 _ rfl, h 3 _ rfl, h 4 _ rfl⟩
theorem rng_below {w w' : World} {B b off : Nat} {vs : List Value} (h : w.rangeAt b off vs) (hb : Below B w w') (hlt : b < B) : w'.rangeAt b off vs := fun j u hu => (hb.cell (p := ⟨b, _, none⟩) hlt).trans (h j u hu)
/-- a tick is raised by a rest -/
theorem tick_num {now x m : Int} (h0 : 0 ≤ now) (h1 : now ≤ 1000000) (hm : 1 ≤ m) (hm4 : m ≤ 4) : ∃ t : Int, wrap64 (now + wrap64 ((IntKind.u64.wrap x).tmod m)) = t ∧ now ≤ t ∧ t ≤ now + m - 1 := by
  have h2 : 0 ≤ IntKind.u64.wrap x := by rw [IntKind.wrap_u64]; omega
  generalize IntKind.u64.wrap x = z at *
  have e : z.tmod m = z % m := Int.tmod_eq_emod_of_nonneg h2
  have h3 : 0 ≤ z % m := Int.emod_nonneg _ (by omega)
  have h4 : z % m < m := Int.emod_lt_of_pos _ (by omega)
  rw [e, wrap_in (x := z % m) (by omega) (by omega), wrap_in (by omega) (by omega)]
  exact ⟨_, rfl, by omega, by omega⟩
/-- the text of a deed is short enough -/
theorem size_in {s : ByteArray} (h : s.size ≤ maxLen) : (0 : Int) ≤ (s.size : Int) := by omega
end Go.Proofs.Ytedogbkkophghaa
