/- A configuration, a row of deeds as arguments: what the reading tells of their cells. -/
import Derived.Test.YtlmdhkaplemjpaaGreatVtD
import Derived.ProofKit
import Derived.OpenShut
import Derived.ChangeSame
import Derived.ChangeSlices
import Derived.ChangeOld
import Derived.PlainAid
import Derived.Deep.Slices
import Derived.Deep.Fields
import Derived.Test.YtlmdhkaplemjpaaGreatOrder4
namespace Go.Proofs.YtlmdhkaplemjpaaGreat
open Go.ChangeShapes Go.WideShapes Go.ChangeAt Go.RowKit Go.Lib Go.Deep
set_option linter.unusedVariables false
set_option maxRecDepth 100000
set_option linter.unusedSimpArgs false
variable {H : Type} {enc : TypeId × Value → H} {w : World} {base : Nat} {sp : Nat → Bool} {held : Bool}

def inI64 (x : Int) : Prop := -9223372036854775808 ≤ x ∧ x ≤ 9223372036854775807
theorem wf_i64 {n : Int} (h : (Lit.int .i64 n).wf = true) : inI64 n := by
  simp [Lit.wf, IntKind.min, IntKind.max, IntKind.bits, IntKind.signed] at h
  unfold inI64; omega
def intOf' : Value → Int
  | .int _ n => n
  | _ => 0
/-- the fields of a configuration: each of one cell, in order -/
theorem flds24 : ∃ fs : Array Field, Tryz.prog.underlying 24 = some (.struct fs) ∧ (∀ k, k < 17 → ∃ f, fs[k]? = some f ∧ f.type = 3 ∧ f.offset = k) ∧ ∃ f, fs[17]? = some f ∧ f.type = 22 ∧ f.offset = 17 := by
  refine ⟨_, Tryz.underlying24, fun k hk => ?_, ⟨_, rfl, rfl, rfl⟩⟩
  match k, hk with
  | 0, _ => exact ⟨_, rfl, rfl, rfl⟩
  | 1, _ => exact ⟨_, rfl, rfl, rfl⟩
  | 2, _ => exact ⟨_, rfl, rfl, rfl⟩
  | 3, _ => exact ⟨_, rfl, rfl, rfl⟩
  | 4, _ => exact ⟨_, rfl, rfl, rfl⟩
  | 5, _ => exact ⟨_, rfl, rfl, rfl⟩
  | 6, _ => exact ⟨_, rfl, rfl, rfl⟩
  | 7, _ => exact ⟨_, rfl, rfl, rfl⟩
  | 8, _ => exact ⟨_, rfl, rfl, rfl⟩
  | 9, _ => exact ⟨_, rfl, rfl, rfl⟩
  | 10, _ => exact ⟨_, rfl, rfl, rfl⟩
  | 11, _ => exact ⟨_, rfl, rfl, rfl⟩
  | 12, _ => exact ⟨_, rfl, rfl, rfl⟩
  | 13, _ => exact ⟨_, rfl, rfl, rfl⟩
  | 14, _ => exact ⟨_, rfl, rfl, rfl⟩
  | 15, _ => exact ⟨_, rfl, rfl, rfl⟩
  | 16, _ => exact ⟨_, rfl, rfl, rfl⟩
  | n + 17, h => exact absurd h (by omega)
theorem one_cell {l : List Value} {k : Nat} {v : Value} (h : (l.drop k).take 1 = [v]) : l[k]? = some v := by
  have : ((l.drop k).take 1)[0]? = some v := by rw [h]; rfl
  rw [List.getElem?_take_of_lt (by omega), List.getElem?_drop] at this
  simpa using this
theorem open_cfg {fuel : Nat} {cs : Array Value} {x : DataW H × List MemPlace} (h : DataW.trod enc Tryz.prog w base sp held fuel 24 cs.toList = some x) : ∃ c : Cfg, cs = c.cells := by
  obtain ⟨fs, hu, hf, f17, hf17, ht17, ho17⟩ := flds24
  obtain ⟨xs, n, _, rfl, hl, hlen, hall⟩ := DataW.trod_struct hu h
  have h18 : cs.toList.length = 18 := by rw [hl]; kernel_rfl
  have hfs : 17 < fs.size := (Array.getElem?_eq_some_iff.1 hf17).1
  have c3 : Tryz.prog.cellsOf 3 = 1 := by kernel_rfl
  have c22 : Tryz.prog.cellsOf 22 = 1 := by kernel_rfl
  have hk : ∀ k, k < 17 → ∃ z : Int, cs.toList[k]? = some (.int .i64 z) := by
    intro k hk
    obtain ⟨f, h1, h2, h3⟩ := hf k hk
    have := hall k f h1
    rw [h2, h3, c3] at this
    have hx : xs[k]? = some xs[k] := List.getElem?_eq_getElem (by omega)
    rw [hx] at this
    obtain ⟨z, e1, _, _⟩ := DataW.trod_int Tryz.underlying3 this
    exact ⟨z, one_cell e1⟩
  obtain ⟨s, hs⟩ : ∃ s : Int, cs.toList[17]? = some (.int .u32 s) := by
    have := hall 17 f17 hf17
    rw [ht17, ho17, c22] at this
    have hx : xs[17]? = some xs[17] := List.getElem?_eq_getElem (by omega)
    rw [hx] at this
    obtain ⟨z, e1, _, _⟩ := DataW.trod_int Tryz.underlying22 this
    exact ⟨z, one_cell e1⟩
  refine ⟨⟨(List.range 17).map (fun k => intOf' (cs.toList.getD k undef)), s, by simp⟩, ?_⟩
  apply Array.toList_inj.1
  apply List.ext_getElem?
  intro i
  by_cases h1 : i < 17
  · obtain ⟨z, hz⟩ := hk i h1
    rw [hz]
    have e : intOf' (cs.toList.getD i undef) = z := by rw [List.getD_eq_getElem?_getD, hz]; rfl
    simp only [Cfg.cells, List.toList_toArray]
    rw [List.getElem?_append_left (by simp; exact h1)]
    simp [h1, e]
    rw [List.getD_eq_getElem?_getD, Array.getElem?_toList] at e
    exact e.symm
  · by_cases h2 : i = 17
    · subst h2
      rw [hs]
      simp [Cfg.cells]
    · rw [List.getElem?_eq_none (by omega), List.getElem?_eq_none (by simp [Cfg.cells]; omega)]
theorem cfg_arg {t : Value} {r : Reach} {b0 : Nat} (hv : Value.okWide Tryz.prog w r b0 24 t) {d : DataW H} {ps : List MemPlace} (h : DataW.Trod enc Tryz.prog w base sp held 24 t d ps) : ∃ c : Cfg, t = c.V := by
  obtain ⟨cs, rfl, _, _⟩ : ∃ cs, t = .agg cs ∧ cs.size = Tryz.prog.cellsOf 24 ∧ Row.okWide Tryz.prog w r b0 24 cs := by
    simpa [Value.okWide, Tryz.underlying24] using hv
  obtain ⟨fuel, hf⟩ := h
  obtain ⟨c, rfl⟩ := open_cfg (cs := cs) hf
  exact ⟨c, rfl⟩
/-- the fields of a call -/
theorem flds26 : ∃ fs : Array Field, Tryz.prog.underlying 46 = some (.struct fs) ∧ (∀ k, k < 8 → ∃ f, fs[k]? = some f ∧ f.type = 3 ∧ f.offset = k) := by
  refine ⟨_, Tryz.underlying46, fun k hk => ?_⟩
  match k, hk with
  | 0, _ => exact ⟨_, rfl, rfl, rfl⟩
  | 1, _ => exact ⟨_, rfl, rfl, rfl⟩
  | 2, _ => exact ⟨_, rfl, rfl, rfl⟩
  | 3, _ => exact ⟨_, rfl, rfl, rfl⟩
  | 4, _ => exact ⟨_, rfl, rfl, rfl⟩
  | 5, _ => exact ⟨_, rfl, rfl, rfl⟩
  | 6, _ => exact ⟨_, rfl, rfl, rfl⟩
  | 7, _ => exact ⟨_, rfl, rfl, rfl⟩
  | n + 8, h => exact absurd h (by omega)
theorem open_call {fuel : Nat} {cs : Array Value} {x : DataW H × List MemPlace} (h : DataW.trod enc Tryz.prog w base sp held fuel 46 cs.toList = some x) : ∃ c : K, cs = c.cells := by
  obtain ⟨fs, hu, hf⟩ := flds26
  obtain ⟨xs, n, _, rfl, hl, hlen, hall⟩ := DataW.trod_struct hu h
  have h8 : cs.toList.length = 8 := by rw [hl]; kernel_rfl
  have c3 : Tryz.prog.cellsOf 3 = 1 := by kernel_rfl
  have hk : ∀ k, k < 8 → ∃ z : Int, cs.toList[k]? = some (.int .i64 z) := by
    intro k hk
    obtain ⟨f, h1, h2, h3⟩ := hf k hk
    have hfs : k < fs.size := (Array.getElem?_eq_some_iff.1 h1).1
    have := hall k f h1
    rw [h2, h3, c3] at this
    have hx : xs[k]? = some xs[k] := List.getElem?_eq_getElem (by omega)
    rw [hx] at this
    obtain ⟨z, e1, _, _⟩ := DataW.trod_int Tryz.underlying3 this
    exact ⟨z, one_cell e1⟩
  obtain ⟨z0, e0⟩ := hk 0 (by omega)
  obtain ⟨z1, e1⟩ := hk 1 (by omega)
  obtain ⟨z2, e2⟩ := hk 2 (by omega)
  obtain ⟨z3, e3⟩ := hk 3 (by omega)
  obtain ⟨z4, e4⟩ := hk 4 (by omega)
  obtain ⟨z5, e5⟩ := hk 5 (by omega)
  obtain ⟨z6, e6⟩ := hk 6 (by omega)
  obtain ⟨z7, e7⟩ := hk 7 (by omega)
  refine ⟨⟨z0, z1, z2, z3, z4, z5, z6, z7⟩, ?_⟩
  apply Array.toList_inj.1
  apply List.ext_getElem?
  intro i
  match i with
  | 0 => rw [e0]; rfl
  | 1 => rw [e1]; rfl
  | 2 => rw [e2]; rfl
  | 3 => rw [e3]; rfl
  | 4 => rw [e4]; rfl
  | 5 => rw [e5]; rfl
  | 6 => rw [e6]; rfl
  | 7 => rw [e7]; rfl
  | n + 8 => rw [List.getElem?_eq_none (by omega)]; rfl
theorem call_arg {t : Value} {r : Reach} {b0 : Nat} (hv : Value.okWide Tryz.prog w r b0 46 t) {d : DataW H} {ps : List MemPlace} (h : DataW.Trod enc Tryz.prog w base sp held 46 t d ps) : ∃ c : K, t = c.V := by
  obtain ⟨cs, rfl, _, _⟩ : ∃ cs, t = .agg cs ∧ cs.size = Tryz.prog.cellsOf 46 ∧ Row.okWide Tryz.prog w r b0 46 cs := by
    simpa [Value.okWide, Tryz.underlying46] using hv
  obtain ⟨fuel, hf⟩ := h
  obtain ⟨c, rfl⟩ := open_call (cs := cs) hf
  exact ⟨c, rfl⟩
/-- a row of numbers that can be read: all below block B -/
def IntsAt (w : World) (B : Nat) (A : Option Addr) (zs : List Int) : Prop :=
  ∀ i, i < zs.length → ∃ b off, A = some ⟨b, off, none⟩ ∧ b < B ∧ w.cell? ⟨b, off + i, none⟩ = some (.int .i64 (zs.getD i 0))
theorem IntsAt.keep {w w' : World} {B : Nat} {A : Option Addr} {zs : List Int} (h : IntsAt w B A zs) (hb : Below B w w') : IntsAt w' B A zs := by
  intro i hi
  obtain ⟨b, off, e, hlt, hc⟩ := h i hi
  exact ⟨b, off, e, hlt, (hb.cell (p := ⟨b, off + i, none⟩) hlt).trans hc⟩
theorem IntsAt.mono {w : World} {B B' : Nat} {A : Option Addr} {zs : List Int} (h : IntsAt w B A zs) (hB : B ≤ B') : IntsAt w B' A zs := by
  intro i hi
  obtain ⟨b, off, e, hlt, hc⟩ := h i hi
  exact ⟨b, off, e, by omega, hc⟩
theorem open_nums {fuel : Nat} {a : Option Addr} {len cap : Nat} {x : DataW H × List MemPlace}
    (h : DataW.trod enc Tryz.prog w base (fun _ => true) held fuel 152 [.slice a len cap] = some x) :
    len ≤ maxLen ∧ ∃ zs : List Int, zs.length = len ∧ (∀ y ∈ zs, inI64 y) ∧ IntsAt w w.heap.size a zs := by
  rcases Go.ChangeShapes.open_ints Tryz.underlying152 Tryz.underlying3 (by kernel_rfl) h with ⟨hcs, _⟩ | ⟨ad, l, c, zs, hcs, _, hl, hm, hz, _, hcell, hwz⟩
  · simp at hcs
    obtain ⟨rfl, rfl, rfl⟩ := hcs
    exact ⟨Nat.zero_le _, [], rfl, by simp, fun i hi => absurd hi (by simp)⟩
  · simp at hcs
    obtain ⟨rfl, rfl, rfl⟩ := hcs
    simp only [if_true] at hz
    refine ⟨by omega, zs.take len, by rw [List.length_take]; omega, fun y hy => wf_i64 (hwz y (List.mem_of_mem_take hy)), ?_⟩
    intro i hi
    have hi : i < len := by rw [List.length_take] at hi; omega
    have hc := hcell i (by omega)
    have h0 := hcell 0 (by omega)
    have hspot : ad.spot = none := by
      have e0 : ad.add 0 = ad := by simp [Addr.add]
      rw [e0] at h0
      exact World.cell?_spot h0
    have hblk : ad.block < w.heap.size := by
      have := World.block_lt_of_cell? w _ h0
      simpa [Addr.add] using this
    obtain ⟨b, off, sp⟩ := ad
    simp only at hspot hblk
    subst hspot
    refine ⟨b, off, rfl, hblk, ?_⟩
    have e : (⟨b, off, none⟩ : Addr).add i = ⟨b, off + i, none⟩ := by
      unfold Addr.add
      by_cases h1 : i = 0 <;> simp [h1]
    rw [e] at hc
    rw [hc]
    simp [List.getD, hi]
/-- a deed: what, who, a call, a number -/
structure Dd where
  kind : Int
  who : Int
  x : K
  n : Int
def Dd.cells (y : Dd) : Array Value := #[.int .i64 y.kind, .int .i64 y.who, .int .i64 y.x.id, .int .i64 y.x.kind, .int .i64 y.x.frm, .int .i64 y.x.dto, .int .i64 y.x.car, .int .i64 y.x.st, .int .i64 y.x.own, .int .i64 y.x.born, .int .i64 y.n]
abbrev Dd.V (y : Dd) : Value := .agg y.cells
def zd : Dd := ⟨0, 0, zk, 0⟩
theorem open_callL {fuel : Nat} {l : List Value} {x : DataW H × List MemPlace} (h : DataW.trod enc Tryz.prog w base sp held fuel 46 l = some x) : ∃ c : K, l = c.cells.toList := by
  obtain ⟨c, hc⟩ := open_call (cs := l.toArray) (by simpa using h)
  exact ⟨c, by rw [← hc]⟩
theorem open_change {fuel : Nat} {l : List Value} {x : DataW H × List MemPlace} (h : DataW.trod enc Tryz.prog w base sp held fuel 48 l = some x) : ∃ c : Cg, l = c.cells.toList := by
  obtain ⟨xs, n', _, _, hlen, hxl, hf⟩ := DataW.trod_struct Tryz.underlying48 h
  have e5 : Tryz.prog.cellsOf 48 = 11 := by kernel_rfl
  rw [e5] at hlen
  have k3 : Tryz.prog.cellsOf 3 = 1 := by kernel_rfl
  have kc : Tryz.prog.cellsOf 46 = 8 := by kernel_rfl
  match l, hlen with
  | [a0, a1, a2, a3, a4, a5, a6, a7, a8, a9, a10], _ =>
    match xs, hxl with
    | [y0, y1, y2, y3], _ =>
      have f0 : DataW.trod enc Tryz.prog w base sp held n' 3 [a0] = some y0 := by have := hf 0 _ rfl; simpa [k3] using this
      have f1 : DataW.trod enc Tryz.prog w base sp held n' 46 [a1, a2, a3, a4, a5, a6, a7, a8] = some y1 := by have := hf 1 _ rfl; simpa [kc] using this
      have f2 : DataW.trod enc Tryz.prog w base sp held n' 3 [a9] = some y2 := by have := hf 2 _ rfl; simpa [k3] using this
      have f3 : DataW.trod enc Tryz.prog w base sp held n' 3 [a10] = some y3 := by have := hf 3 _ rfl; simpa [k3] using this
      obtain ⟨i0, e0, _, _⟩ := DataW.trod_int Tryz.underlying3 f0
      obtain ⟨c, ec⟩ := open_callL f1
      obtain ⟨i2, e2, _, _⟩ := DataW.trod_int Tryz.underlying3 f2
      obtain ⟨i3, e3, _, _⟩ := DataW.trod_int Tryz.underlying3 f3
      simp at e0 e2 e3
      simp [K.cells] at ec
      obtain ⟨c1, c2, c3, c4, c5, c6, c7, c8⟩ := ec
      subst e0 e2 e3 c1 c2 c3 c4 c5 c6 c7 c8
      exact ⟨⟨i0, c, i2, i3⟩, rfl⟩
def Dd.wf (y : Dd) : Prop := inI64 y.kind ∧ inI64 y.who ∧ inI64 y.n
theorem open_deed {fuel : Nat} {l : List Value} {x : DataW H × List MemPlace} (h : DataW.trod enc Tryz.prog w base sp held fuel 58 l = some x) : ∃ y : Dd, l = y.cells.toList ∧ y.wf := by
  obtain ⟨xs, n', _, _, hlen, hxl, hf⟩ := DataW.trod_struct Tryz.underlying58 h
  have e5 : Tryz.prog.cellsOf 58 = 11 := by kernel_rfl
  rw [e5] at hlen
  have k3 : Tryz.prog.cellsOf 3 = 1 := by kernel_rfl
  have kc : Tryz.prog.cellsOf 46 = 8 := by kernel_rfl
  match l, hlen with
  | [a0, a1, a2, a3, a4, a5, a6, a7, a8, a9, a10], _ =>
    match xs, hxl with
    | [y0, y1, y2, y3], _ =>
      have f0 : DataW.trod enc Tryz.prog w base sp held n' 3 [a0] = some y0 := by have := hf 0 _ rfl; simpa [k3] using this
      have f1 : DataW.trod enc Tryz.prog w base sp held n' 3 [a1] = some y1 := by have := hf 1 _ rfl; simpa [k3] using this
      have f2 : DataW.trod enc Tryz.prog w base sp held n' 46 [a2, a3, a4, a5, a6, a7, a8, a9] = some y2 := by have := hf 2 _ rfl; simpa [kc] using this
      have f3 : DataW.trod enc Tryz.prog w base sp held n' 3 [a10] = some y3 := by have := hf 3 _ rfl; simpa [k3] using this
      obtain ⟨i0, e0, _, w0⟩ := DataW.trod_int Tryz.underlying3 f0
      obtain ⟨i1, e1, _, w1⟩ := DataW.trod_int Tryz.underlying3 f1
      obtain ⟨c, ec⟩ := open_callL f2
      obtain ⟨i3, e3, _, w3⟩ := DataW.trod_int Tryz.underlying3 f3
      simp at e0 e1 e3
      simp [K.cells] at ec
      obtain ⟨c1, c2, c3, c4, c5, c6, c7, c8⟩ := ec
      subst e0 e1 e3 c1 c2 c3 c4 c5 c6 c7 c8
      exact ⟨⟨i0, i1, c, i3⟩, rfl, wf_i64 w0, wf_i64 w1, wf_i64 w3⟩
/-- a row of deeds that came in: all below block B -/
def DdsAt (w : World) (B : Nat) (A : Option Addr) (ds : List Dd) : Prop :=
  ∀ i, i < ds.length → ∃ b off, A = some ⟨b, off, none⟩ ∧ b < B ∧ w.rangeAt b (off + i * 11) (ds.getD i zd).cells.toList
theorem DdsAt.keep {w w' : World} {B : Nat} {A : Option Addr} {ds : List Dd} (h : DdsAt w B A ds) (hb : Below B w w') : DdsAt w' B A ds := by
  intro i hi
  obtain ⟨b, off, e, hlt, h1⟩ := h i hi
  exact ⟨b, off, e, hlt, fun j u hu => (hb.cell (p := ⟨b, _, none⟩) hlt).trans (h1 j u hu)⟩
theorem open_acts {fuel : Nat} {a : Option Addr} {len cap : Nat} {x : DataW H × List MemPlace} (h : DataW.trod enc Tryz.prog w base (fun _ => true) held fuel 25 [.slice a len cap] = some x) :
    len ≤ maxLen ∧ ∃ acts : List Dd, acts.length = len ∧ (∀ y ∈ acts, y.wf) ∧ DdsAt w w.heap.size a acts := by
  rcases open_slice Tryz.underlying25 h with ⟨h0, _⟩ | ⟨ad, l, c, m, n, D, Pl, hcs, hb, hl, hm, hmm, hx, hi⟩
  · simp at h0
    obtain ⟨rfl, rfl, rfl⟩ := h0
    exact ⟨Nat.zero_le _, [], rfl, by simp, fun i hi => absurd hi (by simp)⟩
  · simp at hcs
    obtain ⟨rfl, rfl, rfl⟩ := hcs
    have e5 : Tryz.prog.cellsOf 58 = 11 := by kernel_rfl
    rw [e5] at hi
    simp only [if_true] at hmm
    subst hmm
    have hall : ∀ i, i < len → ∃ y : Dd, y.wf ∧ ∀ j v, y.cells.toList[j]? = some v → w.cell? ((ad.add (i * 11)).add j) = some v := by
      intro i hil
      obtain ⟨cs', hc, ht⟩ := hi i (by omega)
      obtain ⟨y, rfl, hwf⟩ := open_deed ht
      obtain ⟨_, _, hat⟩ := World.cells?_some hc
      refine ⟨y, hwf, fun j v hj => ?_⟩
      have hj5 : j < 11 := (List.getElem?_eq_some_iff.1 hj).1
      rw [hat j hj5]; exact hj
    refine ⟨by omega, (List.range len).map fun i => if h : i < len then (hall i h).choose else zd, by simp, fun y hy => ?_, ?_⟩
    · obtain ⟨i, hi, rfl⟩ := List.mem_map.1 hy
      have hil : i < len := by simpa using hi
      rw [dif_pos hil]
      exact (hall i hil).choose_spec.1
    intro i hil
    have hil : i < len := by simpa using hil
    have hg : ((List.range len).map fun i => if h : i < len then (hall i h).choose else zd).getD i zd = (hall i hil).choose := by
      simp [hil]
    rw [hg]
    have hc := (hall i hil).choose_spec.2
    have hz := (hall 0 (by omega)).choose_spec.2 0 _ rfl
    have hspot : ad.spot = none := by
      have h0 : (ad.add (0 * 11)).add 0 = ad := by simp [Addr.add]
      rw [h0] at hz
      exact World.cell?_spot hz
    have hblk : ad.block < w.heap.size := by
      have := World.block_lt_of_cell? w _ hz
      simpa [Addr.add] using this
    obtain ⟨b, off, sp⟩ := ad
    simp only at hspot hblk
    subst hspot
    have e : ∀ j, ((⟨b, off, none⟩ : Addr).add (i * 11)).add j = ⟨b, off + i * 11 + j, none⟩ := by
      intro j
      unfold Addr.add
      by_cases h1 : i * 11 = 0 <;> by_cases h2 : j = 0 <;> simp [h1, h2]
    exact ⟨b, off, rfl, hblk, fun j u hu => (congrArg w.cell? (e j)).symm.trans (hc j u hu)⟩
end Go.Proofs.YtlmdhkaplemjpaaGreat
/- What a book is behind places alone; two cancels in either order. No Go text. -/
namespace Go.Proofs.YtlmdhkaplemjpaaGreat
open Go.RowKit Go.Lib
open Sh.Plain (KV get put del Rise)
set_option linter.unusedVariables false
set_option linter.unusedSimpArgs false

theorem mem_put {k : Int} {v : K} : ∀ {l : List KV} {p : KV}, p ∈ put k v l → p = (k, v) ∨ p ∈ l
  | [], p, h => by simp [put] at h; exact .inl h
  | x :: l, p, h => by
    unfold put at h
    split at h
    · rcases List.mem_cons.1 h with rfl | h
      · exact .inr (List.mem_cons_self ..)
      · rcases mem_put h with h | h
        · exact .inl h
        · exact .inr (List.mem_cons_of_mem _ h)
    · split at h
      · rcases List.mem_cons.1 h with h | h
        · exact .inl h
        · exact .inr (List.mem_cons_of_mem _ h)
      · rcases List.mem_cons.1 h with h | h
        · exact .inl h
        · exact .inr h
theorem mem_wput {rm : Nat} {k : Int} {v : K} {l : List KV} {p : KV} (h : p ∈ Sh.wput rm k v l) : p = (k, v) ∨ p ∈ l := by
  unfold Sh.wput at h
  split at h
  · exact mem_put h
  · exact .inr h
theorem get_del_ne {k j : Int} (h : k ≠ j) : ∀ {l : List KV}, get k (del j l) = get k l
  | [] => rfl
  | x :: l => by
    unfold del
    by_cases e : x.1 = j
    · rw [List.filter_cons_of_neg (by simpa using e)]
      have : get k (x :: l) = get k l := if_neg (fun e2 => h (e2.symm.trans e))
      rw [this]
      exact get_del_ne h
    · rw [List.filter_cons_of_pos (by simpa using e)]
      show (if x.1 = k then some x.2 else get k (del j l)) = (if x.1 = k then some x.2 else get k l)
      rw [get_del_ne h]
theorem del_comm (j k : Int) (l : List KV) : del j (del k l) = del k (del j l) := by
  unfold del
  rw [List.filter_filter, List.filter_filter]
  congr 1
  funext x
  rw [Bool.and_comm]
theorem livesK_of {k : K} (h : k.st = 1 ∨ k.st = 2 ∨ k.st = 3) : livesK k = true := decide_eq_true h
theorem livesK_not {k : K} (h : ¬ (k.st = 1 ∨ k.st = 2 ∨ k.st = 3)) : livesK k = false := decide_eq_false h
/-- what New of a call made -/
theorem newA_k {c : Cfg} {x : K} {i n m : Int} (h : (newA c x i n m).2 = 0) : okc c = true ∧ (newA c x i n m).1 = { x with id := i, own := n, born := m, st := 1 } ∧ 1 ≤ i ∧ i ≤ top := by
  have hok := newA_okc h
  by_cases h0 : chkK c x = 0
  · by_cases h2 : i < 1 ∨ n < 1 ∨ m < 0 ∨ top < max (max i n) m
    · rw [newA_arg h0 h2] at h; exact absurd h (by decide)
    · rw [newA_ok h0 h2]
      refine ⟨hok, rfl, by omega, ?_⟩
      have : ¬ top < max (max i n) m := fun e => h2 (.inr (.inr (.inr e)))
      omega
  · rw [newA_no h0] at h; exact absurd h h0
/-- a change that was made: no more than 2^30 -/
theorem changedB_ok {b : Bk} {x : Cg} (h : (changedB b x).2.2 = 0) : b.ix ≠ top ∧ changedB b x = (withB b { x with ix := b.ix + 1 }, { x with ix := b.ix + 1 }, 0) := by
  by_cases e : b.ix = top
  · have : changedB b x = (zb, zg, 5) := if_pos e
    rw [this] at h; exact absurd h (by decide)
  · exact ⟨e, if_neg e⟩
theorem changedB_as {b : Bk} {x : Cg} (e : b.ix ≠ top) : changedB b x = (withB b { x with ix := b.ix + 1 }, { x with ix := b.ix + 1 }, 0) := if_neg e
theorem placeB_ok {b : Bk} {x : K} {n m : Int} (h : (placeB b x n m).2.2 = 0) : okc b.c = true ∧ b.ix ≠ top ∧ b.live.length ≠ b.rm ∧ placeB b x n m = ({ b with ix := b.ix + 1, live := Sh.wput b.rm (b.ix + 1) { x with id := b.ix + 1, own := n, born := m, st := 1 } b.live }, ⟨b.ix + 1, { x with id := b.ix + 1, own := n, born := m, st := 1 }, 0, 0⟩, 0) := by
  by_cases h0 : (newA b.c x (b.ix + 1) n m).2 = 0
  · obtain ⟨h1, h2, h3⟩ := newA_k h0
    by_cases hf : b.live.length = b.rm
    · have : placeB b x n m = (zb, zg, 5) := by unfold placeB; rw [if_neg (by rw [h0]; decide), if_pos hf]
      rw [this] at h; exact absurd h (by decide)
    · have e : placeB b x n m = changedB b ⟨0, (newA b.c x (b.ix + 1) n m).1, 0, 0⟩ := by unfold placeB; rw [if_neg (by rw [h0]; decide), if_neg hf]
      rw [e] at h
      obtain ⟨hi, e2⟩ := changedB_ok h
      refine ⟨h1, hi, hf, ?_⟩
      rw [e, e2, h2, withB_live rfl (livesK_of (.inl rfl))]
  · have : placeB b x n m = (zb, zg, (newA b.c x (b.ix + 1) n m).2) := if_pos h0
    rw [this] at h; exact absurd h h0
/-- behind places alone -/
structure Pl (s : Bk) (j : Nat) : Prop where
  ok : s.Ok
  ixj : s.ix ≤ j
  done : s.done = []
  keys : ∀ p ∈ s.live, p.1 = p.2.id ∧ p.2.st = 1
  mode : s.c.beq zc = false → modeB s 1 ≠ 0
  nil : s.c.beq zc = true → s.live = []
theorem zb_ok : zb.Ok := ⟨fun h => absurd (h.symm.trans (Cfg.beq_self zc)) (by decide), by decide⟩
theorem cfg_nums {c : Cfg} (h : okc c = true) : (1 ≤ c.get 3 ∧ c.get 3 ≤ 64) ∧ (1 ≤ c.get 1 ∧ c.get 1 ≤ 4) := by
  have h3 : lo 3 ≤ c.get 3 ∧ c.get 3 ≤ hi 3 := ok_at h (by decide)
  have h1 : lo 1 ≤ c.get 1 ∧ c.get 1 ≤ hi 1 := ok_at h (by decide)
  exact ⟨h3, h1⟩
theorem newBk_ok {c : Cfg} (j : Nat) (h : okc c = true) : (newBk c j).Ok := by
  obtain ⟨h3, h1⟩ := cfg_nums h
  exact ⟨fun _ => by show 0 < (c.get 3).toNat; omega, by show (0 : Int) ≤ 0 ∧ (0 : Int) ≤ top; decide⟩
theorem Pl.new (c : Cfg) : Pl (newB c) 0 := by
  unfold newB
  cases h : okc c
  · rw [if_neg (by decide)]
    exact ⟨zb_ok, by decide, rfl, by simp [zb], fun h => absurd (h.symm.trans (Cfg.beq_self zc)) (by decide), fun _ => rfl⟩
  · rw [if_pos rfl]
    obtain ⟨h3, h1⟩ := cfg_nums h
    refine ⟨newBk_ok _ h, by show (0 : Int) ≤ 0; omega, rfl, by simp [newBk], fun _ => ?_, fun _ => rfl⟩
    have e : modeB (newBk c (c.get 1).toNat) 1 = (modesTo (c.get 1).toNat).getD 0 0 := rfl
    rw [e]
    obtain ⟨n, hn⟩ : ∃ n, (c.get 1).toNat = n + 1 := ⟨(c.get 1).toNat - 1, by omega⟩
    rw [hn]
    simp [modesTo]
theorem Pl.mono {s : Bk} {i j : Nat} (h : Pl s i) (hij : i ≤ j) : Pl s j := ⟨h.ok, by have := h.ixj; omega, h.done, h.keys, h.mode, h.nil⟩
theorem Pl.place {s : Bk} {j : Nat} {x : K} {n m : Int} (h : Pl s j) (hj : j < 1000) (h0 : (placeB s x n m).2.2 = 0) : Pl (placeB s x n m).1 (j + 1) := by
  obtain ⟨h1, h2, h3, h4⟩ := placeB_ok h0
  rw [h4]
  have hi := h.ok.ix
  have hj2 := h.ixj
  refine ⟨⟨h.ok.pos, ⟨by show 0 ≤ s.ix + 1; omega, by show s.ix + 1 ≤ top; unfold top at hi h2 ⊢; omega⟩⟩, by show s.ix + 1 ≤ ((j + 1 : Nat) : Int); omega, h.done, fun p hp => ?_, h.mode, fun e => ?_⟩
  · rcases mem_wput hp with rfl | hp
    · exact ⟨rfl, rfl⟩
    · exact h.keys p hp
  · have : s.c.beq zc = false := nil_of_bad h1
    have e : s.c.beq zc = true := e
    rw [this] at e; cases e
/-- who waits is cancelled -/
theorem cancel_step {t : Bk} {i : Int} {x : K} (hn : t.c.beq zc = false) (hf : findB t i = some x) (hi : x.id = i) (hs : x.st = 1) (ht : t.ix ≠ top) : ∃ D g, cancelB t i x.own = ({ t with ix := t.ix + 1, live := del i t.live, done := D }, g, 0) := by
  have hc : cancelK x = ({ x with st := 5 }, 0) := if_pos (.inl hs)
  have e : cancelB t i x.own = changedB t ⟨0, { x with st := 5 }, 0, 0⟩ := by
    unfold cancelB
    rw [if_neg (by rw [hn]; decide), hf]
    show (if x.own ≠ x.own then _ else _) = _
    rw [if_neg (by simp), hc, if_neg (fun h => h rfl)]
  rw [e, changedB_as ht, withB_done rfl (livesK_not (show ¬ ((5 : Int) = 1 ∨ (5 : Int) = 2 ∨ (5 : Int) = 3) by decide))]
  subst hi
  exact ⟨_, _, rfl⟩
theorem set_step {t : Bk} {md : Int} (hn : t.c.beq zc = false) (hm : modeB t 1 ≠ 0) (h12 : md = 1 ∨ md = 2) (ht : t.ix ≠ top) : ∃ g, setB t 1 md = ({ t with ix := t.ix + 1, m := t.m.set 0 md, ml := by rw [List.length_set]; exact t.ml }, g, 0) := by
  have hh : haveB t 1 md = true := by
    unfold haveB
    rw [Bool.and_eq_true]
    refine ⟨by simpa using hm, ?_⟩
    rcases h12 with rfl | rfl <;> decide
  have e : setB t 1 md = changedB t ⟨0, zk, 1, md⟩ := by
    unfold setB
    rw [if_neg (by rw [hn]; decide), if_neg (by rw [hh]; decide)]
  rw [e, changedB_as ht, withB_car (show (1 : Int) ≠ 0 by decide)]
  exact ⟨_, rfl⟩
structure Two6 (s : Bk) (a b md : Int) (x y : K) (p q r u v w : Bk) (gp gq gr gu gv gw : Cg) : Prop where
  e1 : cancelB s a x.own = (p, gp, 0)
  e2 : setB p 1 md = (q, gq, 0)
  e3 : cancelB q b y.own = (r, gr, 0)
  e4 : cancelB s b y.own = (u, gu, 0)
  e5 : cancelB u a x.own = (v, gv, 0)
  e6 : setB v 1 md = (w, gw, 0)
  ok : p.Ok ∧ q.Ok ∧ u.Ok ∧ v.Ok
  live : r.live = w.live
  ix : r.ix = w.ix
  mode : modeB r 1 = modeB w 1
  len : (r.live.length : Int) = (s.live.length : Int) - 2
theorem findB_live {s : Bk} {i : Int} {x : K} (hd : s.done = []) (h : findB s i = some x) : get i s.live = some x := by
  unfold findB at h
  cases hg : get i s.live with
  | some y => rw [hg] at h; exact h
  | none => rw [hg, hd] at h; simp [seek] at h
theorem mode_set {t : Bk} {md : Int} : modeB { t with ix := t.ix + 1, m := t.m.set 0 md, ml := by rw [List.length_set]; exact t.ml } 1 = md := by
  have e : modeB { t with ix := t.ix + 1, m := t.m.set 0 md, ml := by rw [List.length_set]; exact t.ml } 1 = (t.m.set 0 md).getD 0 0 := rfl
  rw [e]
  have := t.ml
  cases hm : t.m with
  | nil => rw [hm] at this; cases this
  | cons z l => rfl
theorem two6 {s : Bk} {j : Nat} {a b md : Int} {x y : K} (h : Pl s j) (hj : j < 1000) (hr : Rise s.live) (hx : findB s a = some x) (hy : findB s b = some y) (hab : a ≠ b) (h12 : md = 1 ∨ md = 2) :
    ∃ p q r u v w gp gq gr gu gv gw, Two6 s a b md x y p q r u v w gp gq gr gu gv gw := by
  have gx := findB_live h.done hx
  have gy := findB_live h.done hy
  obtain ⟨kx, sx⟩ := h.keys _ (Sh.Plain.get_mem gx)
  obtain ⟨ky, sy⟩ := h.keys _ (Sh.Plain.get_mem gy)
  have hn : s.c.beq zc = false := by
    cases e : s.c.beq zc
    · rfl
    · rw [h.nil e] at gx; cases gx
  have hi := h.ok.ix
  have hij := h.ixj
  have hm := h.mode hn
  have hp := h.ok.pos hn
  have htop : top = 1073741824 := rfl
  obtain ⟨D1, gp, e1⟩ := cancel_step hn hx kx.symm sx (by omega)
  obtain ⟨gq, e2⟩ := set_step (t := { s with ix := s.ix + 1, live := del a s.live, done := D1 }) (md := md) hn hm h12 (by show s.ix + 1 ≠ top; omega)
  have f3 : findB ({ s with ix := s.ix + 1 + 1, live := del a s.live, done := D1, m := s.m.set 0 md, ml := by rw [List.length_set]; exact s.ml } : Bk) b = some y := by
    unfold findB
    have : get b (del a s.live) = some y := by rw [get_del_ne (Ne.symm hab)]; exact gy
    show (match get b (del a s.live) with | some x => some x | none => _) = _
    rw [this]
  obtain ⟨D3, gr, e3⟩ := cancel_step (t := { s with ix := s.ix + 1 + 1, live := del a s.live, done := D1, m := s.m.set 0 md, ml := by rw [List.length_set]; exact s.ml }) hn f3 ky.symm sy (by show s.ix + 1 + 1 ≠ top; omega)
  obtain ⟨D4, gu, e4⟩ := cancel_step hn hy ky.symm sy (by omega)
  have f5 : findB ({ s with ix := s.ix + 1, live := del b s.live, done := D4 } : Bk) a = some x := by
    unfold findB
    have : get a (del b s.live) = some x := by rw [get_del_ne hab]; exact gx
    show (match get a (del b s.live) with | some x => some x | none => _) = _
    rw [this]
  obtain ⟨D5, gv, e5⟩ := cancel_step (t := { s with ix := s.ix + 1, live := del b s.live, done := D4 }) hn f5 kx.symm sx (by show s.ix + 1 ≠ top; omega)
  obtain ⟨gw, e6⟩ := set_step (t := { s with ix := s.ix + 1 + 1, live := del a (del b s.live), done := D5 }) (md := md) hn hm h12 (by show s.ix + 1 + 1 ≠ top; omega)
  refine ⟨_, _, _, _, _, _, gp, gq, gr, gu, gv, gw, ⟨e1, e2, e3, e4, e5, e6, ⟨⟨fun _ => hp, ?_⟩, ⟨fun _ => hp, ?_⟩, ⟨fun _ => hp, ?_⟩, ⟨fun _ => hp, ?_⟩⟩, ?_, rfl, ?_, ?_⟩⟩
  · show 0 ≤ s.ix + 1 ∧ s.ix + 1 ≤ top; omega
  · show 0 ≤ s.ix + 1 + 1 ∧ s.ix + 1 + 1 ≤ top; omega
  · show 0 ≤ s.ix + 1 ∧ s.ix + 1 ≤ top; omega
  · show 0 ≤ s.ix + 1 + 1 ∧ s.ix + 1 + 1 ≤ top; omega
  · exact del_comm b a s.live
  · have a1 := mode_set (t := { s with ix := s.ix + 1, live := del a s.live, done := D1 }) (md := md)
    have a2 := mode_set (t := { s with ix := s.ix + 1 + 1, live := del a (del b s.live), done := D5 }) (md := md)
    exact Eq.trans a1 a2.symm
  · show ((del b (del a s.live)).length : Int) = (s.live.length : Int) - 2
    have l1 := Sh.Plain.del_length (k := a) hr
    rw [gx] at l1
    have l2 := Sh.Plain.del_length (k := b) (l := del a s.live) hr.del
    rw [get_del_ne (Ne.symm hab), gy] at l2
    simp only [Option.isSome_some, if_true] at l1 l2
    have p1 : 0 < s.live.length := List.length_pos_of_mem (Sh.Plain.get_mem gx)
    have g2 : get b (del a s.live) = some y := by rw [get_del_ne (Ne.symm hab)]; exact gy
    have p2 : 0 < (del a s.live).length := List.length_pos_of_mem (Sh.Plain.get_mem g2)
    omega
end Go.Proofs.YtlmdhkaplemjpaaGreat
