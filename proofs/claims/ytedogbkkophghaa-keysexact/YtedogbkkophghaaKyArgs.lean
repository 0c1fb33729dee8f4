/- The arguments of the statements: a configuration, deeds, numbers. -/
import Derived.Test.YtedogbkkophghaaKyH
import Derived.ProofKit
import Derived.OpenShut
import Derived.ChangeSame
import Derived.ChangeSlices
import Derived.ChangeOld
import Derived.PlainAid
import Derived.Deep.Slices
import Derived.Deep.Fields
namespace Go.Proofs.Ytedogbkkophghaa
open Go.ChangeShapes Go.WideShapes Go.ChangeAt Go.RowKit Go.Lib Go.Deep
set_option linter.unusedVariables false
set_option maxRecDepth 100000
set_option linter.unusedSimpArgs false
variable {H : Type} {enc : TypeId × Value → H} {w : World} {base : Nat} {sp : Nat → Bool} {held : Bool}

def inI64 (x : Int) : Prop := -9223372036854775808 ≤ x ∧ x ≤ 9223372036854775807
theorem wf_i64 {n : Int} (h : (Lit.int .i64 n).wf = true) : inI64 n := by
  simp [Lit.wf, IntKind.min, IntKind.max, IntKind.bits, IntKind.signed] at h
  unfold inI64; omega
def intOf' : Value → Int
  | .int _ n => n
  | _ => 0
/-- the fields of a configuration: each of one cell, in order -/
theorem flds24 : ∃ fs : Array Field, Try.prog.underlying 24 = some (.struct fs) ∧ (∀ k, k < 17 → ∃ f, fs[k]? = some f ∧ f.type = 3 ∧ f.offset = k) ∧ ∃ f, fs[17]? = some f ∧ f.type = 22 ∧ f.offset = 17 := by
  refine ⟨_, Try.underlying24, fun k hk => ?_, ⟨_, rfl, rfl, rfl⟩⟩
  match k, hk with
  | 0, _ => exact ⟨_, rfl, rfl, rfl⟩
  | 1, _ => exact ⟨_, rfl, rfl, rfl⟩
  | 2, _ => exact ⟨_, rfl, rfl, rfl⟩
  | 3, _ => exact ⟨_, rfl, rfl, rfl⟩
  | 4, _ => exact ⟨_, rfl, rfl, rfl⟩
  | 5, _ => exact ⟨_, rfl, rfl, rfl⟩
  | 6, _ => exact ⟨_, rfl, rfl, rfl⟩
  | 7, _ => exact ⟨_, rfl, rfl, rfl⟩
  | 8, _ => exact ⟨_, rfl, rfl, rfl⟩
  | 9, _ => exact ⟨_, rfl, rfl, rfl⟩
  | 10, _ => exact ⟨_, rfl, rfl, rfl⟩
  | 11, _ => exact ⟨_, rfl, rfl, rfl⟩
  | 12, _ => exact ⟨_, rfl, rfl, rfl⟩
  | 13, _ => exact ⟨_, rfl, rfl, rfl⟩
  | 14, _ => exact ⟨_, rfl, rfl, rfl⟩
  | 15, _ => exact ⟨_, rfl, rfl, rfl⟩
  | 16, _ => exact ⟨_, rfl, rfl, rfl⟩
  | n + 17, h => exact absurd h (by omega)
theorem one_cell {l : List Value} {k : Nat} {v : Value} (h : (l.drop k).take 1 = [v]) : l[k]? = some v := by
  have : ((l.drop k).take 1)[0]? = some v := by rw [h]; rfl
  rw [List.getElem?_take_of_lt (by omega), List.getElem?_drop] at this
  simpa using this
theorem open_cfg {fuel : Nat} {cs : Array Value} {x : DataW H × List MemPlace} (h : DataW.trod enc Try.prog w base sp held fuel 24 cs.toList = some x) : ∃ c : Cfg, cs = c.cells := by
  obtain ⟨fs, hu, hf, f17, hf17, ht17, ho17⟩ := flds24
  obtain ⟨xs, n, _, rfl, hl, hlen, hall⟩ := DataW.trod_struct hu h
  have h18 : cs.toList.length = 18 := by rw [hl]; kernel_rfl
  have hfs : 17 < fs.size := (Array.getElem?_eq_some_iff.1 hf17).1
  have c3 : Try.prog.cellsOf 3 = 1 := by kernel_rfl
  have c22 : Try.prog.cellsOf 22 = 1 := by kernel_rfl
  have hk : ∀ k, k < 17 → ∃ z : Int, cs.toList[k]? = some (.int .i64 z) := by
    intro k hk
    obtain ⟨f, h1, h2, h3⟩ := hf k hk
    have := hall k f h1
    rw [h2, h3, c3] at this
    have hx : xs[k]? = some xs[k] := List.getElem?_eq_getElem (by omega)
    rw [hx] at this
    obtain ⟨z, e1, _, _⟩ := DataW.trod_int Try.underlying3 this
    exact ⟨z, one_cell e1⟩
  obtain ⟨s, hs⟩ : ∃ s : Int, cs.toList[17]? = some (.int .u32 s) := by
    have := hall 17 f17 hf17
    rw [ht17, ho17, c22] at this
    have hx : xs[17]? = some xs[17] := List.getElem?_eq_getElem (by omega)
    rw [hx] at this
    obtain ⟨z, e1, _, _⟩ := DataW.trod_int Try.underlying22 this
    exact ⟨z, one_cell e1⟩
  refine ⟨⟨(List.range 17).map (fun k => intOf' (cs.toList.getD k undef)), s, by simp⟩, ?_⟩
  apply Array.toList_inj.1
  apply List.ext_getElem?
  intro i
  by_cases h1 : i < 17
  · obtain ⟨z, hz⟩ := hk i h1
    rw [hz]
    have e : intOf' (cs.toList.getD i undef) = z := by rw [List.getD_eq_getElem?_getD, hz]; rfl
    simp only [Cfg.cells, List.toList_toArray]
    rw [List.getElem?_append_left (by simp; exact h1)]
    simp [h1, e]
    rw [List.getD_eq_getElem?_getD, Array.getElem?_toList] at e
    exact e.symm
  · by_cases h2 : i = 17
    · subst h2
      rw [hs]
      simp [Cfg.cells]
    · rw [List.getElem?_eq_none (by omega), List.getElem?_eq_none (by simp [Cfg.cells]; omega)]
theorem cfg_arg {t : Value} {r : Reach} {b0 : Nat} (hv : Value.okWide Try.prog w r b0 24 t) {d : DataW H} {ps : List MemPlace} (h : DataW.Trod enc Try.prog w base sp held 24 t d ps) : ∃ c : Cfg, t = c.V := by
  obtain ⟨cs, rfl, _, _⟩ : ∃ cs, t = .agg cs ∧ cs.size = Try.prog.cellsOf 24 ∧ Row.okWide Try.prog w r b0 24 cs := by
    simpa [Value.okWide, Try.underlying24] using hv
  obtain ⟨fuel, hf⟩ := h
  obtain ⟨c, rfl⟩ := open_cfg (cs := cs) hf
  exact ⟨c, rfl⟩

theorem wf_u64 {n : Int} (h : (Lit.int .u64 n).wf = true) : isU n := by
  simp [Lit.wf, IntKind.min, IntKind.max, IntKind.bits, IntKind.signed] at h
  unfold isU; omega
/-- a deed -/
structure Ac where
  kind : Int
  now : Int
  who : Int
  key : Int
  body : ByteArray
def Ac.Ok (y : Ac) : Prop := isI y.now ∧ isI y.who ∧ isU y.key ∧ y.body.size ≤ maxLen
def Ac.cells (y : Ac) : Array Value := #[.int .i64 y.kind, .int .i64 y.now, .int .i64 y.who, .int .u64 y.key, .string y.body]
abbrev Ac.V (y : Ac) : Value := .agg y.cells
def za : Ac := ⟨0, 0, 0, 0, zt⟩
theorem Ac.size (y : Ac) : y.cells.size = 5 := rfl
theorem sizeA (y : Ac) : (Try.prog.info? 39).map (·.size) = some y.cells.size := by rw [y.size]; kernel_rfl
theorem Ac.one (y : Ac) : y.cells.all (·.oneCell') = true := by simp [Ac.cells, Value.oneCell']
/-- a deed lies in a block -/
abbrev AcAt (w : World) (g : Nat) (y : Ac) : Prop := At w g 39 y.cells
section
variable {g : Nat} {y : Ac}
theorem AcAt.k0 (h : AcAt w g y) : w.cell? ⟨g, 0, none⟩ = some (.int .i64 y.kind) := by rw [At.cell h]; rfl
theorem AcAt.k1 (h : AcAt w g y) : w.cell? ⟨g, 1, none⟩ = some (.int .i64 y.now) := by rw [At.cell h]; rfl
theorem AcAt.k2 (h : AcAt w g y) : w.cell? ⟨g, 2, none⟩ = some (.int .i64 y.who) := by rw [At.cell h]; rfl
theorem AcAt.k3 (h : AcAt w g y) : w.cell? ⟨g, 3, none⟩ = some (.int .u64 y.key) := by rw [At.cell h]; rfl
theorem AcAt.k4 (h : AcAt w g y) : w.cell? ⟨g, 4, none⟩ = some (.string y.body) := by rw [At.cell h]; rfl
theorem AcAt.rng (h : AcAt w g y) : w.rangeAt g 0 y.cells.toList := fun j u hu => by
  rw [Nat.zero_add, At.cell h]; simpa using hu
end
/-- a row of deeds that came in: all below block B -/
def ActsAt (w : World) (B : Nat) (A : Option Addr) (ds : List Ac) : Prop :=
  ∀ i, i < ds.length → ∃ b off, A = some ⟨b, off, none⟩ ∧ b < B ∧ w.rangeAt b (off + i * 5) (ds.getD i za).cells.toList
theorem ActsAt.keep {w w' : World} {B : Nat} {A : Option Addr} {ds : List Ac} (h : ActsAt w B A ds) (hb : Below B w w') : ActsAt w' B A ds := by
  intro i hi
  obtain ⟨b, off, e, hlt, hc⟩ := h i hi
  exact ⟨b, off, e, hlt, fun j u hu => (hb.cell (p := ⟨b, _, none⟩) hlt).trans (hc j u hu)⟩
abbrev Z5 : Array Value := #[.int .i64 0, .int .i64 0, .int .i64 0, .int .u64 0, .string ⟨#[]⟩]
theorem new_a (w : World) : AcAt (w.alloc (.cells Z5 39)) w.heap.size za := At.new w 39 _
section
variable {ops : Array Oper} {rest : List Oper} {o : Oper} {a : Act} {w : World} {Q : Exit → Act → World → Prop}
theorem wpList_load_ac (x : Tmp) (ho : o.op = .load 39 (.tmp x)) (hgd : Region.wanted o (yielded ops a.tmps) = true) {g off : Nat} {y : Ac} (e : a.eval (.tmp x) = ptr g off) (h : w.rangeAt g off y.cells.toList)
    (k : wpList Try.prog ops Q rest (a.put o.dst y.V) w) : wpList Try.prog ops Q (o :: rest) a w :=
  wpList_load_part 39 x ho hgd e h Try.underlying39 rfl (sizeA y) k
theorem wpList_store_acnew (x y : Tmp) (ho : o.op = .store 39 (.tmp x) (.tmp y)) (hgd : o.guard = none) {c : Ac} (e1 : a.eval (.tmp x) = ptr w.heap.size 0) (e2 : a.eval (.tmp y) = c.V)
    (k : wpList Try.prog ops Q rest (a.put o.dst undef) (w.alloc (.cells c.cells 39))) : wpList Try.prog ops Q (o :: rest) a (w.alloc (.cells Z5 39)) := by
  refine wpList_store_row hgd 39 (.tmp x) (.tmp y) ho w.heap.size c.cells e1 e2 39 Z5 (At.new w 39 Z5) (sizeA c) rfl c.one ?_
  rw [World.setRow_alloc_new]
  exact k
theorem wpList_store_kynew (x y : Tmp) (ho : o.op = .store 31 (.tmp x) (.tmp y)) (hgd : o.guard = none) {b : Ky} {s : Option Addr} (e1 : a.eval (.tmp x) = ptr w.heap.size 0) (e2 : a.eval (.tmp y) = b.V s)
    (k : wpList Try.prog ops Q rest (a.put o.dst undef) (w.alloc (.cells (b.cells s) 31))) : wpList Try.prog ops Q (o :: rest) a (w.alloc (.cells Z21 31)) := by
  refine wpList_store_row hgd 31 (.tmp x) (.tmp y) ho w.heap.size (b.cells s) e1 e2 31 Z21 (At.new w 31 Z21) (sizeY b s) (by rw [b.size]; rfl) (b.one s) ?_
  rw [World.setRow_alloc_new]
  exact k
end
section
variable {H : Type} {enc : TypeId × Value → H} {w : World} {base : Nat} {sp : Nat → Bool} {held : Bool}
theorem open_ac {fuel : Nat} {l : List Value} {x : DataW H × List MemPlace} (h : DataW.trod enc Try.prog w base sp held fuel 39 l = some x) : ∃ y : Ac, l = y.cells.toList ∧ y.Ok := by
  obtain ⟨xs, n', _, _, hlen, hxl, hf⟩ := DataW.trod_struct Try.underlying39 h
  have e5 : Try.prog.cellsOf 39 = 5 := by kernel_rfl
  rw [e5] at hlen
  have k3 : Try.prog.cellsOf 3 = 1 := by kernel_rfl
  have ku : Try.prog.cellsOf 37 = 1 := by kernel_rfl
  have ks : Try.prog.cellsOf 9 = 1 := by kernel_rfl
  match l, hlen with
  | [a0, a1, a2, a3, a4], _ =>
    match xs, hxl with
    | [y0, y1, y2, y3, y4], _ =>
      have f0 : DataW.trod enc Try.prog w base sp held n' 3 [a0] = some y0 := by have := hf 0 _ rfl; simpa [k3] using this
      have f1 : DataW.trod enc Try.prog w base sp held n' 3 [a1] = some y1 := by have := hf 1 _ rfl; simpa [k3] using this
      have f2 : DataW.trod enc Try.prog w base sp held n' 3 [a2] = some y2 := by have := hf 2 _ rfl; simpa [k3] using this
      have f3 : DataW.trod enc Try.prog w base sp held n' 37 [a3] = some y3 := by have := hf 3 _ rfl; simpa [ku] using this
      have f4 : DataW.trod enc Try.prog w base sp held n' 9 [a4] = some y4 := by have := hf 4 _ rfl; simpa [ks] using this
      obtain ⟨i0, e0, _, _⟩ := DataW.trod_int Try.underlying3 f0
      obtain ⟨i1, e1, _, w1⟩ := DataW.trod_int Try.underlying3 f1
      obtain ⟨i2, e2, _, w2⟩ := DataW.trod_int Try.underlying3 f2
      obtain ⟨i3, e3, _, w3⟩ := DataW.trod_int Try.underlying37 f3
      obtain ⟨i4, e4, _, w4⟩ := DataW.trod_string Try.underlying9 f4
      simp at e0 e1 e2 e3 e4
      subst e0 e1 e2 e3 e4
      exact ⟨⟨i0, i1, i2, i3, i4⟩, rfl, wf_i64 w1, wf_i64 w2, wf_u64 w3, w4⟩
theorem ac_arg {t : Value} {r : Reach} {b0 : Nat} (hv : Value.okWide Try.prog w r b0 39 t) {d : DataW H} {ps : List MemPlace} (h : DataW.Trod enc Try.prog w base sp held 39 t d ps) : ∃ c : Ac, t = c.V ∧ c.Ok := by
  obtain ⟨cs, rfl, _, _⟩ : ∃ cs, t = .agg cs ∧ cs.size = Try.prog.cellsOf 39 ∧ Row.okWide Try.prog w r b0 39 cs := by
    simpa [Value.okWide, Try.underlying39] using hv
  obtain ⟨fuel, hf⟩ := h
  obtain ⟨c, hc, hk⟩ := open_ac (l := cs.toList) hf
  refine ⟨c, ?_, hk⟩
  rw [show cs = c.cells from Array.toList_inj.1 hc]
theorem open_acts {fuel : Nat} {a : Option Addr} {len cap : Nat} {x : DataW H × List MemPlace} (h : DataW.trod enc Try.prog w base (fun _ => true) held fuel 25 [.slice a len cap] = some x) :
    len ≤ maxLen ∧ ∃ acts : List Ac, acts.length = len ∧ (∀ y ∈ acts, y.Ok) ∧ ActsAt w w.heap.size a acts := by
  rcases open_slice Try.underlying25 h with ⟨h0, _⟩ | ⟨ad, l, c, m, n, D, Pl, hcs, hb, hl, hm, hmm, hx, hi⟩
  · simp at h0
    obtain ⟨rfl, rfl, rfl⟩ := h0
    exact ⟨Nat.zero_le _, [], rfl, by simp, fun i hi => absurd hi (by simp)⟩
  · simp at hcs
    obtain ⟨rfl, rfl, rfl⟩ := hcs
    have e5 : Try.prog.cellsOf 39 = 5 := by kernel_rfl
    rw [e5] at hi
    simp only [if_true] at hmm
    subst hmm
    have hall : ∀ i, i < len → ∃ y : Ac, y.Ok ∧ ∀ j v, y.cells.toList[j]? = some v → w.cell? ((ad.add (i * 5)).add j) = some v := by
      intro i hil
      obtain ⟨cs', hc, ht⟩ := hi i (by omega)
      obtain ⟨y, rfl, hy⟩ := open_ac ht
      obtain ⟨_, _, hat⟩ := World.cells?_some hc
      refine ⟨y, hy, fun j v hj => ?_⟩
      have hj5 : j < 5 := (List.getElem?_eq_some_iff.1 hj).1
      rw [hat j hj5]; exact hj
    refine ⟨by omega, (List.range len).map fun i => if h : i < len then (hall i h).choose else za, by simp, fun y hy => ?_, ?_⟩
    · obtain ⟨i, hi2, rfl⟩ := List.mem_map.1 hy
      have hil : i < len := by simpa using hi2
      simp only [hil, dif_pos]
      exact (hall i hil).choose_spec.1
    intro i hil
    have hil : i < len := by simpa using hil
    have hg : ((List.range len).map fun i => if h : i < len then (hall i h).choose else za).getD i za = (hall i hil).choose := by
      simp [hil]
    rw [hg]
    have hc := (hall i hil).choose_spec.2
    have hz := (hall 0 (by omega)).choose_spec.2 0 _ rfl
    have hspot : ad.spot = none := by
      have h0 : (ad.add (0 * 5)).add 0 = ad := by simp [Addr.add]
      rw [h0] at hz
      exact World.cell?_spot hz
    have hblk : ad.block < w.heap.size := by
      have := World.block_lt_of_cell? w _ hz
      simpa [Addr.add] using this
    obtain ⟨b, off, sp⟩ := ad
    simp only at hspot hblk
    subst hspot
    have e : ∀ j, ((⟨b, off, none⟩ : Addr).add (i * 5)).add j = ⟨b, off + i * 5 + j, none⟩ := by
      intro j
      unfold Addr.add
      by_cases h1 : i * 5 = 0 <;> by_cases h2 : j = 0 <;> simp [h1, h2]
    exact ⟨b, off, rfl, hblk, fun j u hu => (congrArg w.cell? (e j)).symm.trans (hc j u hu)⟩
end
end Go.Proofs.Ytedogbkkophghaa
