/- A configuration, a bucket, a row of numbers as arguments: what the reading tells of their cells. -/
import Derived.Test.YtepfgheliddpmaaBuG
import Derived.ProofKit
import Derived.OpenShut
import Derived.ChangeSame
import Derived.ChangeSlices
import Derived.ChangeOld
import Derived.PlainAid
import Derived.Deep.Slices
import Derived.Deep.Fields
namespace Go.Proofs.Ytepfgheliddpmaa
open Go.ChangeShapes Go.WideShapes Go.ChangeAt Go.RowKit Go.Lib Go.Deep
set_option linter.unusedVariables false
set_option linter.unusedSimpArgs false
variable {H : Type} {enc : TypeId × Value → H} {w : World} {base : Nat} {sp : Nat → Bool} {held : Bool}

def inI64 (x : Int) : Prop := -9223372036854775808 ≤ x ∧ x ≤ 9223372036854775807
theorem wf_i64 {n : Int} (h : (Lit.int .i64 n).wf = true) : inI64 n := by
  simp [Lit.wf, IntKind.min, IntKind.max, IntKind.bits, IntKind.signed] at h
  unfold inI64; omega
def intOf' : Value → Int
  | .int _ n => n
  | _ => 0
/-- the fields of a configuration: each of one cell, in order -/
theorem fields24 : ∃ fs : Array Field, Try.prog.underlying 24 = some (.struct fs) ∧ (∀ k, k < 17 → ∃ f, fs[k]? = some f ∧ f.type = 3 ∧ f.offset = k) ∧ ∃ f, fs[17]? = some f ∧ f.type = 22 ∧ f.offset = 17 := by
  refine ⟨_, Try.underlying24, fun k hk => ?_, ⟨_, rfl, rfl, rfl⟩⟩
  match k, hk with
  | 0, _ => exact ⟨_, rfl, rfl, rfl⟩
  | 1, _ => exact ⟨_, rfl, rfl, rfl⟩
  | 2, _ => exact ⟨_, rfl, rfl, rfl⟩
  | 3, _ => exact ⟨_, rfl, rfl, rfl⟩
  | 4, _ => exact ⟨_, rfl, rfl, rfl⟩
  | 5, _ => exact ⟨_, rfl, rfl, rfl⟩
  | 6, _ => exact ⟨_, rfl, rfl, rfl⟩
  | 7, _ => exact ⟨_, rfl, rfl, rfl⟩
  | 8, _ => exact ⟨_, rfl, rfl, rfl⟩
  | 9, _ => exact ⟨_, rfl, rfl, rfl⟩
  | 10, _ => exact ⟨_, rfl, rfl, rfl⟩
  | 11, _ => exact ⟨_, rfl, rfl, rfl⟩
  | 12, _ => exact ⟨_, rfl, rfl, rfl⟩
  | 13, _ => exact ⟨_, rfl, rfl, rfl⟩
  | 14, _ => exact ⟨_, rfl, rfl, rfl⟩
  | 15, _ => exact ⟨_, rfl, rfl, rfl⟩
  | 16, _ => exact ⟨_, rfl, rfl, rfl⟩
  | n + 17, h => exact absurd h (by omega)
theorem one_cell {l : List Value} {k : Nat} {v : Value} (h : (l.drop k).take 1 = [v]) : l[k]? = some v := by
  have : ((l.drop k).take 1)[0]? = some v := by rw [h]; rfl
  rw [List.getElem?_take_of_lt (by omega), List.getElem?_drop] at this
  simpa using this
theorem open_cfg {fuel : Nat} {cs : Array Value} {x : DataW H × List MemPlace} (h : DataW.trod enc Try.prog w base sp held fuel 24 cs.toList = some x) : ∃ c : Cfg, cs = c.cells := by
  obtain ⟨fs, hu, hf, f17, hf17, ht17, ho17⟩ := fields24
  obtain ⟨xs, n, _, rfl, hl, hlen, hall⟩ := DataW.trod_struct hu h
  have h18 : cs.toList.length = 18 := by rw [hl]; kernel_rfl
  have hfs : 17 < fs.size := (Array.getElem?_eq_some_iff.1 hf17).1
  have c3 : Try.prog.cellsOf 3 = 1 := by kernel_rfl
  have c22 : Try.prog.cellsOf 22 = 1 := by kernel_rfl
  have hk : ∀ k, k < 17 → ∃ z : Int, cs.toList[k]? = some (.int .i64 z) := by
    intro k hk
    obtain ⟨f, h1, h2, h3⟩ := hf k hk
    have := hall k f h1
    rw [h2, h3, c3] at this
    have hx : xs[k]? = some xs[k] := List.getElem?_eq_getElem (by omega)
    rw [hx] at this
    obtain ⟨z, e1, _, _⟩ := DataW.trod_int Try.underlying3 this
    exact ⟨z, one_cell e1⟩
  obtain ⟨s, hs⟩ : ∃ s : Int, cs.toList[17]? = some (.int .u32 s) := by
    have := hall 17 f17 hf17
    rw [ht17, ho17, c22] at this
    have hx : xs[17]? = some xs[17] := List.getElem?_eq_getElem (by omega)
    rw [hx] at this
    obtain ⟨z, e1, _, _⟩ := DataW.trod_int Try.underlying22 this
    exact ⟨z, one_cell e1⟩
  refine ⟨⟨(List.range 17).map (fun k => intOf' (cs.toList.getD k undef)), s, by simp⟩, ?_⟩
  apply Array.toList_inj.1
  apply List.ext_getElem?
  intro i
  by_cases h1 : i < 17
  · obtain ⟨z, hz⟩ := hk i h1
    rw [hz]
    have e : intOf' (cs.toList.getD i undef) = z := by rw [List.getD_eq_getElem?_getD, hz]; rfl
    simp only [Cfg.cells, List.toList_toArray]
    rw [List.getElem?_append_left (by simp; exact h1)]
    simp [h1, e]
    rw [List.getD_eq_getElem?_getD, Array.getElem?_toList] at e
    exact e.symm
  · by_cases h2 : i = 17
    · subst h2
      rw [hs]
      simp [Cfg.cells]
    · rw [List.getElem?_eq_none (by omega), List.getElem?_eq_none (by simp [Cfg.cells]; omega)]
theorem cfg_arg {t : Value} {r : Reach} {b0 : Nat} (hv : Value.okWide Try.prog w r b0 24 t) {d : DataW H} {ps : List MemPlace} (h : DataW.Trod enc Try.prog w base sp held 24 t d ps) : ∃ c : Cfg, t = c.V := by
  obtain ⟨cs, rfl, _, _⟩ : ∃ cs, t = .agg cs ∧ cs.size = Try.prog.cellsOf 24 ∧ Row.okWide Try.prog w r b0 24 cs := by
    simpa [Value.okWide, Try.underlying24] using hv
  obtain ⟨fuel, hf⟩ := h
  obtain ⟨c, rfl⟩ := open_cfg (cs := cs) hf
  exact ⟨c, rfl⟩
/-- the fields of a bucket -/
theorem fieldsBt : ∃ fs : Array Field, Try.prog.underlying 26 = some (.struct fs) ∧ (∀ k, k < 2 → ∃ f, fs[k]? = some f ∧ f.type = 3 ∧ f.offset = k) := by
  refine ⟨_, Try.underlying26, fun k hk => ?_⟩
  match k, hk with
  | 0, _ => exact ⟨_, rfl, rfl, rfl⟩
  | 1, _ => exact ⟨_, rfl, rfl, rfl⟩
  | n + 2, h => exact absurd h (by omega)
theorem open_bucket {fuel : Nat} {cs : Array Value} {x : DataW H × List MemPlace} (h : DataW.trod enc Try.prog w base sp held fuel 26 cs.toList = some x) : ∃ c : Bt, cs = c.cells := by
  obtain ⟨fs, hu, hf⟩ := fieldsBt
  obtain ⟨xs, n, _, rfl, hl, hlen, hall⟩ := DataW.trod_struct hu h
  have h2 : cs.toList.length = 2 := by rw [hl]; kernel_rfl
  have c3 : Try.prog.cellsOf 3 = 1 := by kernel_rfl
  have hk : ∀ k, k < 2 → ∃ z : Int, cs.toList[k]? = some (.int .i64 z) := by
    intro k hk
    obtain ⟨f, h1, h2, h3⟩ := hf k hk
    have hfs : k < fs.size := (Array.getElem?_eq_some_iff.1 h1).1
    have := hall k f h1
    rw [h2, h3, c3] at this
    have hx : xs[k]? = some xs[k] := List.getElem?_eq_getElem (by omega)
    rw [hx] at this
    obtain ⟨z, e1, _, _⟩ := DataW.trod_int Try.underlying3 this
    exact ⟨z, one_cell e1⟩
  obtain ⟨z0, e0⟩ := hk 0 (by omega)
  obtain ⟨z1, e1⟩ := hk 1 (by omega)
  refine ⟨⟨z0, z1⟩, ?_⟩
  apply Array.toList_inj.1
  apply List.ext_getElem?
  intro i
  match i with
  | 0 => rw [e0]; rfl
  | 1 => rw [e1]; rfl
  | n + 2 => rw [List.getElem?_eq_none (by omega)]; rfl
theorem bucket_arg {t : Value} {r : Reach} {b0 : Nat} (hv : Value.okWide Try.prog w r b0 26 t) {d : DataW H} {ps : List MemPlace} (h : DataW.Trod enc Try.prog w base sp held 26 t d ps) : ∃ c : Bt, t = c.V := by
  obtain ⟨cs, rfl, _, _⟩ : ∃ cs, t = .agg cs ∧ cs.size = Try.prog.cellsOf 26 ∧ Row.okWide Try.prog w r b0 26 cs := by
    simpa [Value.okWide, Try.underlying26] using hv
  obtain ⟨fuel, hf⟩ := h
  obtain ⟨c, rfl⟩ := open_bucket (cs := cs) hf
  exact ⟨c, rfl⟩
/-- a row of numbers that can be read: all below block B -/
def IntsAt (w : World) (B : Nat) (A : Option Addr) (zs : List Int) : Prop :=
  ∀ i, i < zs.length → ∃ b off, A = some ⟨b, off, none⟩ ∧ b < B ∧ w.cell? ⟨b, off + i, none⟩ = some (.int .i64 (zs.getD i 0))
theorem IntsAt.keep {w w' : World} {B : Nat} {A : Option Addr} {zs : List Int} (h : IntsAt w B A zs) (hb : Below B w w') : IntsAt w' B A zs := by
  intro i hi
  obtain ⟨b, off, e, hlt, hc⟩ := h i hi
  exact ⟨b, off, e, hlt, (hb.cell (p := ⟨b, off + i, none⟩) hlt).trans hc⟩
theorem IntsAt.mono {w : World} {B B' : Nat} {A : Option Addr} {zs : List Int} (h : IntsAt w B A zs) (hB : B ≤ B') : IntsAt w B' A zs := by
  intro i hi
  obtain ⟨b, off, e, hlt, hc⟩ := h i hi
  exact ⟨b, off, e, by omega, hc⟩
theorem open_nums {fuel : Nat} {a : Option Addr} {len cap : Nat} {x : DataW H × List MemPlace}
    (h : DataW.trod enc Try.prog w base (fun _ => true) held fuel 36 [.slice a len cap] = some x) :
    len ≤ maxLen ∧ ∃ zs : List Int, zs.length = len ∧ (∀ y ∈ zs, inI64 y) ∧ IntsAt w w.heap.size a zs := by
  rcases Go.ChangeShapes.open_ints Try.underlying36 Try.underlying3 (by kernel_rfl) h with ⟨hcs, _⟩ | ⟨ad, l, c, zs, hcs, _, hl, hm, hz, _, hcell, hwz⟩
  · simp at hcs
    obtain ⟨rfl, rfl, rfl⟩ := hcs
    exact ⟨Nat.zero_le _, [], rfl, by simp, fun i hi => absurd hi (by simp)⟩
  · simp at hcs
    obtain ⟨rfl, rfl, rfl⟩ := hcs
    simp only [if_true] at hz
    refine ⟨by omega, zs.take len, by rw [List.length_take]; omega, fun y hy => wf_i64 (hwz y (List.mem_of_mem_take hy)), ?_⟩
    intro i hi
    have hi : i < len := by rw [List.length_take] at hi; omega
    have hc := hcell i (by omega)
    have h0 := hcell 0 (by omega)
    have hspot : ad.spot = none := by
      have e0 : ad.add 0 = ad := by simp [Addr.add]
      rw [e0] at h0
      exact World.cell?_spot h0
    have hblk : ad.block < w.heap.size := by
      have := World.block_lt_of_cell? w _ h0
      simpa [Addr.add] using this
    obtain ⟨b, off, sp⟩ := ad
    simp only at hspot hblk
    subst hspot
    refine ⟨b, off, rfl, hblk, ?_⟩
    have e : (⟨b, off, none⟩ : Addr).add i = ⟨b, off + i, none⟩ := by
      unfold Addr.add
      by_cases h1 : i = 0 <;> simp [h1]
    rw [e] at hc
    rw [hc]
    simp [List.getD, hi]
end Go.Proofs.Ytepfgheliddpmaa
