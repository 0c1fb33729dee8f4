/- The arguments of the statements: rows of deeds, of texts, of numbers. No Go text. -/
import Derived.Test.YtdpgpdadgcogjaaShA
import Derived.ChangeSlices
import Derived.ChangeOld
import Derived.PlainAid
import Derived.Deep.Slices
import Derived.Deep.Fields
import Derived.ChangeSame
namespace Go.Proofs.Ytdpgpdadgcogjaa
open Go.ChangeShapes Go.WideShapes Go.Deep Go.RowKit Go.Lib Plain
set_option linter.unusedVariables false

def inI64 (x : Int) : Prop := -9223372036854775808 ≤ x ∧ x ≤ 9223372036854775807
theorem wf_i64 {n : Int} (h : (Lit.int .i64 n).wf = true) : inI64 n := by
  simp [Lit.wf, IntKind.min, IntKind.max, IntKind.bits, IntKind.signed] at h
  unfold inI64; omega
/-- a deed -/
structure Deed where
  kind : Int
  k : ByteArray
  v : Int
def noDeed : Deed := ⟨0, ⟨#[]⟩, 0⟩
def Deed.Ok (d : Deed) : Prop := inI64 d.kind ∧ inI64 d.v
/-- a row of deeds that came in: all below block B -/
def ActsAt (w : World) (B : Nat) (A : Option Addr) (acts : List Deed) : Prop :=
  ∀ i, i < acts.length → ∃ b off, A = some ⟨b, off, none⟩ ∧ b < B ∧ w.cell? ⟨b, off + i * 3, none⟩ = some (.int .i64 (acts.getD i noDeed).kind) ∧ w.cell? ⟨b, off + i * 3 + 1, none⟩ = some (.string (acts.getD i noDeed).k) ∧ w.cell? ⟨b, off + i * 3 + 2, none⟩ = some (.int .i64 (acts.getD i noDeed).v)
theorem ActsAt.keep {w w' : World} {B : Nat} {A : Option Addr} {acts : List Deed} (h : ActsAt w B A acts) (hb : Below B w w') : ActsAt w' B A acts := by
  intro i hi
  obtain ⟨b, off, e, hlt, h1, h2, h3⟩ := h i hi
  exact ⟨b, off, e, hlt, (hb.cell (p := ⟨b, _, none⟩) hlt).trans h1, (hb.cell (p := ⟨b, _, none⟩) hlt).trans h2, (hb.cell (p := ⟨b, _, none⟩) hlt).trans h3⟩
/-- a row of texts that came in: all below block B -/
def StrsAt (w : World) (B : Nat) (A : Option Addr) (ss : List ByteArray) : Prop :=
  ∀ i, i < ss.length → ∃ b off, A = some ⟨b, off, none⟩ ∧ b < B ∧ w.cell? ⟨b, off + i, none⟩ = some (.string (ss.getD i ByteArray.empty))
theorem StrsAt.keep {w w' : World} {B : Nat} {A : Option Addr} {ss : List ByteArray} (h : StrsAt w B A ss) (hb : Below B w w') : StrsAt w' B A ss := by
  intro i hi
  obtain ⟨b, off, e, hlt, h1⟩ := h i hi
  exact ⟨b, off, e, hlt, (hb.cell (p := ⟨b, _, none⟩) hlt).trans h1⟩
/-- a row of numbers that can be read: all below block B -/
def IntsAt (w : World) (B : Nat) (A : Option Addr) (zs : List Int) : Prop :=
  ∀ i, i < zs.length → ∃ b off, A = some ⟨b, off, none⟩ ∧ b < B ∧ w.cell? ⟨b, off + i, none⟩ = some (.int .i64 (zs.getD i 0))
theorem IntsAt.keep {w w' : World} {B : Nat} {A : Option Addr} {zs : List Int} (h : IntsAt w B A zs) (hb : Below B w w') : IntsAt w' B A zs := by
  intro i hi
  obtain ⟨b, off, e, hlt, hc⟩ := h i hi
  exact ⟨b, off, e, hlt, (hb.cell (p := ⟨b, off + i, none⟩) hlt).trans hc⟩
theorem IntsAt.mono {w : World} {B B' : Nat} {A : Option Addr} {zs : List Int} (h : IntsAt w B A zs) (hB : B ≤ B') : IntsAt w B' A zs := by
  intro i hi
  obtain ⟨b, off, e, hlt, hc⟩ := h i hi
  exact ⟨b, off, e, by omega, hc⟩
section
variable {H : Type} {enc : TypeId × Value → H} {w : World} {base : Nat} {held : Bool}
theorem open_nums {fuel : Nat} {a : Option Addr} {len cap : Nat} {x : DataW H × List MemPlace}
    (h : DataW.trod enc Try.prog w base (fun _ => true) held fuel 53 [.slice a len cap] = some x) :
    len ≤ maxLen ∧ ∃ zs : List Int, zs.length = len ∧ (∀ y ∈ zs, inI64 y) ∧ IntsAt w w.heap.size a zs := by
  rcases Go.ChangeShapes.open_ints Try.underlying53 Try.underlying3 (by kernel_rfl) h with ⟨hcs, _⟩ | ⟨ad, l, c, zs, hcs, _, hl, hm, hz, _, hcell, hwz⟩
  · simp at hcs
    obtain ⟨rfl, rfl, rfl⟩ := hcs
    exact ⟨Nat.zero_le _, [], rfl, by simp, fun i hi => absurd hi (by simp)⟩
  · simp at hcs
    obtain ⟨rfl, rfl, rfl⟩ := hcs
    simp only [if_true] at hz
    refine ⟨by omega, zs.take len, by rw [List.length_take]; omega, fun y hy => wf_i64 (hwz y (List.mem_of_mem_take hy)), ?_⟩
    intro i hi
    have hi : i < len := by rw [List.length_take] at hi; omega
    have hc := hcell i (by omega)
    have h0 := hcell 0 (by omega)
    have hspot : ad.spot = none := by
      have e0 : ad.add 0 = ad := by simp [Addr.add]
      rw [e0] at h0
      exact World.cell?_spot h0
    have hblk : ad.block < w.heap.size := by
      have := World.block_lt_of_cell? w _ h0
      simpa [Addr.add] using this
    obtain ⟨b, off, sp⟩ := ad
    simp only at hspot hblk
    subst hspot
    refine ⟨b, off, rfl, hblk, ?_⟩
    rw [add_at] at hc
    rw [hc]
    simp [List.getD, hi]
theorem open_strs {fuel : Nat} {a : Option Addr} {len cap : Nat} {x : DataW H × List MemPlace}
    (h : DataW.trod enc Try.prog w base (fun _ => true) held fuel 52 [.slice a len cap] = some x) :
    len ≤ maxLen ∧ ∃ ss : List ByteArray, ss.length = len ∧ (∀ y ∈ ss, y.size ≤ maxLen) ∧ StrsAt w w.heap.size a ss := by
  rcases Go.ChangeShapes.open_strings Try.underlying52 Try.underlying9 (by kernel_rfl) h with ⟨hcs, _⟩ | ⟨ad, l, c, zs, hcs, _, hl, hm, hz, _, hcell, hwz⟩
  · simp at hcs
    obtain ⟨rfl, rfl, rfl⟩ := hcs
    exact ⟨Nat.zero_le _, [], rfl, by simp, fun i hi => absurd hi (by simp)⟩
  · simp at hcs
    obtain ⟨rfl, rfl, rfl⟩ := hcs
    simp only [if_true] at hz
    refine ⟨by omega, zs.take len, by rw [List.length_take]; omega, fun y hy => hwz y (List.mem_of_mem_take hy), ?_⟩
    intro i hi
    have hi : i < len := by rw [List.length_take] at hi; omega
    have hc := hcell i (by omega)
    have h0 := hcell 0 (by omega)
    have hspot : ad.spot = none := by
      have e0 : ad.add 0 = ad := by simp [Addr.add]
      rw [e0] at h0
      exact World.cell?_spot h0
    have hblk : ad.block < w.heap.size := by
      have := World.block_lt_of_cell? w _ h0
      simpa [Addr.add] using this
    obtain ⟨b, off, sp⟩ := ad
    simp only at hspot hblk
    subst hspot
    refine ⟨b, off, rfl, hblk, ?_⟩
    have e : (⟨b, off, none⟩ : Addr).add i = ⟨b, off + i, none⟩ := by
      unfold Addr.add
      by_cases h1 : i = 0 <;> simp [h1]
    rw [e] at hc
    rw [hc]
    simp [List.getD, hi]
theorem open_deed {n : Nat} {cs : List Value} {x : DataW H × List MemPlace} (h : DataW.trod enc Try.prog w base (fun _ => true) held n 30 cs = some x) :
    ∃ y : Deed, y.Ok ∧ cs = [.int .i64 y.kind, .string y.k, .int .i64 y.v] := by
  obtain ⟨xs, n', _, _, hlen, hxl, hf⟩ := DataW.trod_struct Try.underlying30 h
  have e5 : Try.prog.cellsOf 30 = 3 := by kernel_rfl
  rw [e5] at hlen
  have k3 : Try.prog.cellsOf 3 = 1 := by kernel_rfl
  have k9 : Try.prog.cellsOf 9 = 1 := by kernel_rfl
  match cs, hlen with
  | [a0, a1, a2], _ =>
    match xs, hxl with
    | [y0, y1, y2], _ =>
      have f0 : DataW.trod enc Try.prog w base (fun _ => true) held n' 3 [a0] = some y0 := by have := hf 0 _ rfl; simpa [k3] using this
      have f1 : DataW.trod enc Try.prog w base (fun _ => true) held n' 9 [a1] = some y1 := by have := hf 1 _ rfl; simpa [k9] using this
      have f2 : DataW.trod enc Try.prog w base (fun _ => true) held n' 3 [a2] = some y2 := by have := hf 2 _ rfl; simpa [k3] using this
      obtain ⟨i0, e0, _, w0⟩ := DataW.trod_int Try.underlying3 f0
      obtain ⟨i1, e1, _, w1⟩ := DataW.trod_string Try.underlying9 f1
      obtain ⟨i2, e2, _, w2⟩ := DataW.trod_int Try.underlying3 f2
      simp at e0 e1 e2
      subst e0 e1 e2
      exact ⟨⟨i0, i1, i2⟩, ⟨wf_i64 w0, wf_i64 w2⟩, rfl⟩
theorem open_acts {fuel : Nat} {a : Option Addr} {len cap : Nat} {x : DataW H × List MemPlace} (h : DataW.trod enc Try.prog w base (fun _ => true) held fuel 22 [.slice a len cap] = some x) :
    len ≤ maxLen ∧ ∃ acts : List Deed, acts.length = len ∧ (∀ y ∈ acts, y.Ok) ∧ ActsAt w w.heap.size a acts := by
  rcases open_slice Try.underlying22 h with ⟨h0, _⟩ | ⟨ad, l, c, m, n, D, Pl, hcs, hb, hl, hm, hmm, hx, hi⟩
  · simp at h0
    obtain ⟨rfl, rfl, rfl⟩ := h0
    exact ⟨Nat.zero_le _, [], rfl, by simp, fun i hi => absurd hi (by simp)⟩
  · simp at hcs
    obtain ⟨rfl, rfl, rfl⟩ := hcs
    have e5 : Try.prog.cellsOf 30 = 3 := by kernel_rfl
    rw [e5] at hi
    simp only [if_true] at hmm
    subst hmm
    have hall : ∀ i, i < len → ∃ y : Deed, y.Ok ∧ ∀ j v, [Value.int .i64 y.kind, .string y.k, .int .i64 y.v][j]? = some v → w.cell? ((ad.add (i * 3)).add j) = some v := by
      intro i hil
      obtain ⟨cs', hc, ht⟩ := hi i (by omega)
      obtain ⟨y, hy, rfl⟩ := open_deed ht
      obtain ⟨_, _, hat⟩ := World.cells?_some hc
      refine ⟨y, hy, fun j v hj => ?_⟩
      have hj5 : j < 3 := by have := (List.getElem?_eq_some_iff.1 hj).1; simpa using this
      rw [hat j hj5]; exact hj
    refine ⟨by omega, (List.range len).map fun i => if h : i < len then (hall i h).choose else noDeed, by simp, ?_, ?_⟩
    · intro y hy
      simp only [List.mem_map, List.mem_range] at hy
      obtain ⟨i, hil, rfl⟩ := hy
      rw [dif_pos hil]
      exact (hall i hil).choose_spec.1
    · intro i hil
      have hil : i < len := by simpa using hil
      have hg : ((List.range len).map fun i => if h : i < len then (hall i h).choose else noDeed).getD i noDeed = (hall i hil).choose := by
        simp [hil]
      rw [hg]
      have hc := (hall i hil).choose_spec.2
      have hz := (hall 0 (by omega)).choose_spec.2 0 _ rfl
      have hspot : ad.spot = none := by
        have h0 : (ad.add (0 * 3)).add 0 = ad := by simp [Addr.add]
        rw [h0] at hz
        exact World.cell?_spot hz
      have hblk : ad.block < w.heap.size := by
        have := World.block_lt_of_cell? w _ hz
        simpa [Addr.add] using this
      obtain ⟨b, off, sp⟩ := ad
      simp only at hspot hblk
      subst hspot
      have e : ∀ j, ((⟨b, off, none⟩ : Addr).add (i * 3)).add j = ⟨b, off + i * 3 + j, none⟩ := by
        intro j
        unfold Addr.add
        by_cases h1 : i * 3 = 0 <;> by_cases h2 : j = 0 <;> simp [h1, h2]
      refine ⟨b, off, rfl, hblk, ?_⟩
      exact ⟨(congrArg w.cell? (e 0)).symm.trans (hc 0 _ rfl), (congrArg w.cell? (e 1)).symm.trans (hc 1 _ rfl), (congrArg w.cell? (e 2)).symm.trans (hc 2 _ rfl)⟩
end
end Go.Proofs.Ytdpgpdadgcogjaa
