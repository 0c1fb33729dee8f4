/- A row of acts that came in, opened: its numbers and texts, and where they lie. -/
import Derived.Test.YtoijipahcpdhcaaAwake
import Derived.Deep.Slices
import Derived.Deep.Fields
import Derived.ChangeSame
namespace Go.Proofs.Ytoijipahcpdhcaa
open Go.RowKit Go.Lib Plain Go.ChangeShapes Go.WideShapes Go.Deep

structure Act where
  kind : Int
  wd : Int
  n : Int
  m : Int
  s : ByteArray
structure Act.Ok (x : Act) : Prop where
  kind : inI64 x.kind
  wd : inI64 x.wd
  n : inI64 x.n
  m : inI64 x.m
  s : x.s.size ≤ maxLen
def noAct : Act := ⟨0, 0, 0, 0, ⟨#[]⟩⟩
/-- act i of a row at block b lies at off -/
structure ActAt (w : World) (b off : Nat) (x : Act) : Prop where
  c0 : w.cell? ⟨b, off, none⟩ = some (.int .i64 x.kind)
  c1 : w.cell? ⟨b, off + 1, none⟩ = some (.int .i64 x.wd)
  c2 : w.cell? ⟨b, off + 2, none⟩ = some (.int .i64 x.n)
  c3 : w.cell? ⟨b, off + 3, none⟩ = some (.int .i64 x.m)
  c4 : w.cell? ⟨b, off + 4, none⟩ = some (.string x.s)
/-- the slice at A reads as these acts, all below block B -/
def ActsAt (w : World) (B : Nat) (A : Option Addr) (acts : List Act) : Prop :=
  ∀ i, i < acts.length → ∃ b off, A = some ⟨b, off, none⟩ ∧ b < B ∧ ActAt w b (off + i * 5) (acts.getD i noAct)
theorem ActAt.keep {w w' : World} {b off : Nat} {x : Act} (h : ActAt w b off x) (hk : w'.heap[b]? = w.heap[b]?) : ActAt w' b off x := by
  have e : ∀ o, w'.cell? ⟨b, o, none⟩ = w.cell? ⟨b, o, none⟩ := fun o => World.cell?_of_block (a := ⟨b, o, none⟩) hk
  exact ⟨by rw [e]; exact h.c0, by rw [e]; exact h.c1, by rw [e]; exact h.c2, by rw [e]; exact h.c3, by rw [e]; exact h.c4⟩
theorem ActsAt.below {w w' : World} {B : Nat} {A : Option Addr} {acts : List Act} (h : ActsAt w B A acts) (hb : Below B w w') : ActsAt w' B A acts := by
  intro i hi
  obtain ⟨b, off, e, hlt, ha⟩ := h i hi
  exact ⟨b, off, e, hlt, ha.keep (hb.block b hlt)⟩
theorem wf_i64 {n : Int} (h : (Lit.int .i64 n).wf = true) : inI64 n := by
  simp [Lit.wf, IntKind.min, IntKind.max, IntKind.bits, IntKind.signed] at h
  unfold inI64; omega

section
variable {H : Type} {enc : TypeId × Value → H} {w : World} {base : Nat} {spare : Nat → Bool} {held : Bool}
theorem open_act {n : Nat} {cs : List Value} {x : DataW H × List MemPlace} (h : DataW.trod enc Try.prog w base spare held n 29 cs = some x) :
    ∃ y : Act, y.Ok ∧ cs = [.int .i64 y.kind, .int .i64 y.wd, .int .i64 y.n, .int .i64 y.m, .string y.s] := by
  obtain ⟨xs, n', _, _, hlen, hxl, hf⟩ := DataW.trod_struct Try.underlying29 h
  have e5 : Try.prog.cellsOf 29 = 5 := by kernel_rfl
  rw [e5] at hlen
  have k3 : Try.prog.cellsOf 3 = 1 := by kernel_rfl
  have k9 : Try.prog.cellsOf 9 = 1 := by kernel_rfl
  match cs, hlen with
  | [a0, a1, a2, a3, a4], _ =>
    match xs, hxl with
    | [y0, y1, y2, y3, y4], _ =>
      have f0 : DataW.trod enc Try.prog w base spare held n' 3 [a0] = some y0 := by have := hf 0 _ rfl; simpa [k3] using this
      have f1 : DataW.trod enc Try.prog w base spare held n' 3 [a1] = some y1 := by have := hf 1 _ rfl; simpa [k3] using this
      have f2 : DataW.trod enc Try.prog w base spare held n' 3 [a2] = some y2 := by have := hf 2 _ rfl; simpa [k3] using this
      have f3 : DataW.trod enc Try.prog w base spare held n' 3 [a3] = some y3 := by have := hf 3 _ rfl; simpa [k3] using this
      have f4 : DataW.trod enc Try.prog w base spare held n' 9 [a4] = some y4 := by have := hf 4 _ rfl; simpa [k9] using this
      obtain ⟨i0, e0, _, w0⟩ := DataW.trod_int Try.underlying3 f0
      obtain ⟨i1, e1, _, w1⟩ := DataW.trod_int Try.underlying3 f1
      obtain ⟨i2, e2, _, w2⟩ := DataW.trod_int Try.underlying3 f2
      obtain ⟨i3, e3, _, w3⟩ := DataW.trod_int Try.underlying3 f3
      obtain ⟨i4, e4, _, w4⟩ := DataW.trod_string Try.underlying9 f4
      simp at e0 e1 e2 e3 e4
      subst e0 e1 e2 e3 e4
      exact ⟨⟨i0, i1, i2, i3, i4⟩, ⟨wf_i64 w0, wf_i64 w1, wf_i64 w2, wf_i64 w3, w4⟩, rfl⟩
theorem open_acts {fuel : Nat} {a : Option Addr} {len cap : Nat} {x : DataW H × List MemPlace} 
    (h : DataW.trod enc Try.prog w base (fun _ => true) held fuel 22 [.slice a len cap] = some x) :
    len ≤ maxLen ∧ ∃ acts : List Act, acts.length = len ∧ (∀ y ∈ acts, y.Ok) ∧ ActsAt w w.heap.size a acts := by
  rcases open_slice Try.underlying22 h with ⟨h0, _⟩ | ⟨ad, l, c, m, n, D, Pl, hcs, hb, hl, hm, hmm, hx, hi⟩
  · simp at h0
    obtain ⟨rfl, rfl, rfl⟩ := h0
    exact ⟨Nat.zero_le _, [], rfl, by simp, fun i hi => absurd hi (by simp)⟩
  · simp at hcs
    obtain ⟨rfl, rfl, rfl⟩ := hcs
    have e5 : Try.prog.cellsOf 29 = 5 := by kernel_rfl
    rw [e5] at hi
    simp only [if_true] at hmm
    subst hmm
    have hall : ∀ i, i < len → ∃ y : Act, y.Ok ∧ ∀ j v, [Value.int .i64 y.kind, .int .i64 y.wd, .int .i64 y.n, .int .i64 y.m, .string y.s][j]? = some v → w.cell? ((ad.add (i * 5)).add j) = some v := by
      intro i hil
      obtain ⟨cs', hc, ht⟩ := hi i (by omega)
      obtain ⟨y, hy, rfl⟩ := open_act ht
      obtain ⟨_, _, hat⟩ := World.cells?_some hc
      refine ⟨y, hy, fun j v hj => ?_⟩
      have hj5 : j < 5 := by have := (List.getElem?_eq_some_iff.1 hj).1; simpa using this
      rw [hat j hj5]; exact hj
    refine ⟨by omega, (List.range len).map fun i => if h : i < len then (hall i h).choose else noAct, by simp, ?_, ?_⟩
    · intro y hy
      simp only [List.mem_map, List.mem_range] at hy
      obtain ⟨i, hil, rfl⟩ := hy
      rw [dif_pos hil]
      exact (hall i hil).choose_spec.1
    · intro i hil
      have hil : i < len := by simpa using hil
      have hg : ((List.range len).map fun i => if h : i < len then (hall i h).choose else noAct).getD i noAct = (hall i hil).choose := by
        simp [hil]
      rw [hg]
      have hc := (hall i hil).choose_spec.2
      have hz := (hall 0 (by omega)).choose_spec.2 0 _ rfl
      have hspot : ad.spot = none := by
        have h0 : (ad.add (0 * 5)).add 0 = ad := by simp [Addr.add]
        rw [h0] at hz
        exact World.cell?_spot hz
      have hblk : ad.block < w.heap.size := by
        have := World.block_lt_of_cell? w _ hz
        simpa [Addr.add] using this
      obtain ⟨b, off, sp⟩ := ad
      simp only at hspot hblk
      subst hspot
      have e : ∀ j, ((⟨b, off, none⟩ : Addr).add (i * 5)).add j = ⟨b, off + i * 5 + j, none⟩ := by
        intro j
        unfold Addr.add
        by_cases h1 : i * 5 = 0 <;> by_cases h2 : j = 0 <;> simp [h1, h2]
      refine ⟨b, off, rfl, hblk, ?_⟩
      exact ⟨by have := hc 0 _ rfl; rw [e] at this; exact this, by have := hc 1 _ rfl; rw [e] at this; exact this, by have := hc 2 _ rfl; rw [e] at this; exact this, by have := hc 3 _ rfl; rw [e] at this; exact this, by have := hc 4 _ rfl; rw [e] at this; exact this⟩
end
end Go.Proofs.Ytoijipahcpdhcaa
