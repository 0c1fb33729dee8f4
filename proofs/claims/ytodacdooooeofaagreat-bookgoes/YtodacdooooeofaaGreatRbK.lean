/- Deeds whose numbers are in range; the blocks of BookExact. -/
import Derived.Test.YtodacdooooeofaaGreatBkQ0
import Derived.ProofKit
import Derived.OpenShut
import Derived.ChangeSame
import Derived.ChangeSlices
import Derived.ChangeOld
import Derived.PlainAid
import Derived.Deep.Slices
import Derived.Deep.Fields
namespace Go.Proofs.YtodacdooooeofaaGreat
open Go.ChangeShapes Go.WideShapes Go.ChangeAt Go.RowKit Go.Lib Go.Deep
open Sh.Plain (KV put del Rise)
set_option linter.unusedVariables false
set_option linter.unusedSimpArgs false

/-- a deed in a block of its own -/
abbrev DdAt (w : World) (g : Nat) (y : Dd) : Prop := At w g 44 y.cells
theorem size41 (y : Dd) : (Tryz.prog.info? 44).map (·.size) = some y.cells.size := by kernel_rfl
theorem Dd.one (y : Dd) : y.cells.all (·.oneCell') = true := by simp [Dd.cells, Value.oneCell']
theorem DdAt.rng {w : World} {g : Nat} {y : Dd} (h : DdAt w g y) : w.rangeAt g 0 y.cells.toList := fun j u hu => by
  rw [Nat.zero_add, At.cell h]; simpa using hu
theorem DdAt.k0 {w : World} {g : Nat} {y : Dd} (h : DdAt w g y) : w.cell? ⟨g, 0, none⟩ = some (.int .i64 y.kind) := (Dd.at_ h.rng).1
theorem DdAt.k9 {w : World} {g : Nat} {y : Dd} (h : DdAt w g y) : w.cell? ⟨g, 9, none⟩ = some (.int .i64 y.n) := by have := (Dd.at_ h.rng).2.2.1; rwa [Nat.zero_add] at this
theorem DdAt.k10 {w : World} {g : Nat} {y : Dd} (h : DdAt w g y) : w.cell? ⟨g, 10, none⟩ = some (.int .i64 y.m) := by have := (Dd.at_ h.rng).2.2.2.1; rwa [Nat.zero_add] at this
theorem DdAt.x {w : World} {g : Nat} {y : Dd} (h : DdAt w g y) : w.rangeAt g 1 y.x.cells.toList := by have := (Dd.at_ h.rng).2.1; rwa [Nat.zero_add] at this
theorem DdAt.ch {w : World} {g : Nat} {y : Dd} (h : DdAt w g y) : w.rangeAt g 11 y.ch.cells.toList := by have := (Dd.at_ h.rng).2.2.2.2; rwa [Nat.zero_add] at this
abbrev Z22 : Array Value := #[.int .i64 0, .int .i64 0, .int .i64 0, .int .i64 0, .int .i64 0, .int .i64 0, .int .i64 0, .int .i64 0, .int .i64 0, .int .i64 0, .int .i64 0, .int .i64 0, .int .i64 0, .int .i64 0, .int .i64 0, .int .i64 0, .int .i64 0, .int .i64 0, .int .i64 0, .int .i64 0, .int .i64 0, .int .i64 0]
section
variable {ops : Array Oper} {rest : List Oper} {o : Oper} {a : Act} {w : World} {Q : Exit → Act → World → Prop}
theorem wpList_load_dd (x : Tmp) (ho : o.op = .load 44 (.tmp x)) (hgd : Region.wanted o (yielded ops a.tmps) = true) {g off : Nat} {y : Dd} (e : a.eval (.tmp x) = ptr g off) (h : w.rangeAt g off y.cells.toList)
    (k : wpList Tryz.prog ops Q rest (a.put o.dst y.V) w) : wpList Tryz.prog ops Q (o :: rest) a w :=
  wpList_load_part 44 x ho hgd e h Tryz.underlying44 rfl (size41 y) k
theorem wpList_store_ddnew (x y : Tmp) (ho : o.op = .store 44 (.tmp x) (.tmp y)) (hgd : o.guard = none) {c : Dd} (e1 : a.eval (.tmp x) = ptr w.heap.size 0) (e2 : a.eval (.tmp y) = c.V)
    (k : wpList Tryz.prog ops Q rest (a.put o.dst undef) (w.alloc (.cells c.cells 44))) : wpList Tryz.prog ops Q (o :: rest) a (w.alloc (.cells Z22 44)) := by
  refine wpList_store_row hgd 44 (.tmp x) (.tmp y) ho w.heap.size c.cells e1 e2 44 Z22 (At.new w 44 Z22) (size41 c) rfl c.one ?_
  rw [World.setRow_alloc_new]
  exact k
theorem wpList_store_bknew (x y : Tmp) (ho : o.op = .store 32 (.tmp x) (.tmp y)) (hgd : o.guard = none) {b : Bk} {s t : Option Addr} (e1 : a.eval (.tmp x) = ptr w.heap.size 0) (e2 : a.eval (.tmp y) = b.V s t)
    (k : wpList Tryz.prog ops Q rest (a.put o.dst undef) (w.alloc (.cells (b.cells s t) 32))) : wpList Tryz.prog ops Q (o :: rest) a (w.alloc (.cells Z29 32)) := by
  refine wpList_store_row hgd 32 (.tmp x) (.tmp y) ho w.heap.size (b.cells s t) e1 e2 32 Z29 (At.new w 32 Z29) (size32 b s t) (by rw [b.size]; rfl) (b.one s t) ?_
  rw [World.setRow_alloc_new]
  exact k
theorem wpList_store_cgnew (x y : Tmp) (ho : o.op = .store 42 (.tmp x) (.tmp y)) (hgd : o.guard = none) {c : Cg} (e1 : a.eval (.tmp x) = ptr w.heap.size 0) (e2 : a.eval (.tmp y) = c.V)
    (k : wpList Tryz.prog ops Q rest (a.put o.dst undef) (w.alloc (.cells c.cells 42))) : wpList Tryz.prog ops Q (o :: rest) a (w.alloc (.cells Z11 42)) := by
  refine wpList_store_row hgd 42 (.tmp x) (.tmp y) ho w.heap.size c.cells e1 e2 42 Z11 (At.new w 42 Z11) (size39 c) rfl c.one ?_
  rw [World.setRow_alloc_new]
  exact k
theorem wpList_load_cgp (x : Tmp) (ho : o.op = .load 42 (.tmp x)) (hgd : Region.wanted o (yielded ops a.tmps) = true) {g off : Nat} {c : Cg} (e : a.eval (.tmp x) = ptr g off) (h : w.rangeAt g off c.cells.toList)
    (k : wpList Tryz.prog ops Q rest (a.put o.dst c.V) w) : wpList Tryz.prog ops Q (o :: rest) a w :=
  wpList_load_part 42 x ho hgd e h Tryz.underlying42 rfl (size39 c) k
end
section
variable {H : Type} {enc : TypeId × Value → H} {w : World} {base : Nat} {sp : Nat → Bool} {held : Bool}
set_option maxRecDepth 100000
theorem open_change2 {fuel : Nat} {l : List Value} {x : DataW H × List MemPlace} (h : DataW.trod enc Tryz.prog w base sp held fuel 42 l = some x) : ∃ c : Cg, l = c.cells.toList ∧ inI64 c.ix := by
  obtain ⟨xs, n', _, _, hlen, hxl, hf⟩ := DataW.trod_struct Tryz.underlying42 h
  have e5 : Tryz.prog.cellsOf 42 = 11 := by kernel_rfl
  rw [e5] at hlen
  have k3 : Tryz.prog.cellsOf 3 = 1 := by kernel_rfl
  have kc : Tryz.prog.cellsOf 40 = 8 := by kernel_rfl
  match l, hlen with
  | [a0, a1, a2, a3, a4, a5, a6, a7, a8, a9, a10], _ =>
    match xs, hxl with
    | [y0, y1, y2, y3], _ =>
      have f0 : DataW.trod enc Tryz.prog w base sp held n' 3 [a0] = some y0 := by have := hf 0 _ rfl; simpa [k3] using this
      have f1 : DataW.trod enc Tryz.prog w base sp held n' 40 [a1, a2, a3, a4, a5, a6, a7, a8] = some y1 := by have := hf 1 _ rfl; simpa [kc] using this
      have f2 : DataW.trod enc Tryz.prog w base sp held n' 3 [a9] = some y2 := by have := hf 2 _ rfl; simpa [k3] using this
      have f3 : DataW.trod enc Tryz.prog w base sp held n' 3 [a10] = some y3 := by have := hf 3 _ rfl; simpa [k3] using this
      obtain ⟨i0, e0, _, hw0⟩ := DataW.trod_int Tryz.underlying3 f0
      obtain ⟨c, ec⟩ := open_callL f1
      obtain ⟨i2, e2, _, _⟩ := DataW.trod_int Tryz.underlying3 f2
      obtain ⟨i3, e3, _, _⟩ := DataW.trod_int Tryz.underlying3 f3
      simp at e0 e2 e3
      simp [K.cells] at ec
      obtain ⟨c1, c2, c3, c4, c5, c6, c7, c8⟩ := ec
      subst e0 e2 e3 c1 c2 c3 c4 c5 c6 c7 c8
      exact ⟨⟨i0, c, i2, i3⟩, rfl, wf_i64 hw0⟩
theorem open_deed2 {fuel : Nat} {l : List Value} {x : DataW H × List MemPlace} (h : DataW.trod enc Tryz.prog w base sp held fuel 44 l = some x) : ∃ y : Dd, l = y.cells.toList ∧ inI64 y.ch.ix := by
  obtain ⟨xs, n', _, _, hlen, hxl, hf⟩ := DataW.trod_struct Tryz.underlying44 h
  have e5 : Tryz.prog.cellsOf 44 = 22 := by kernel_rfl
  rw [e5] at hlen
  have k3 : Tryz.prog.cellsOf 3 = 1 := by kernel_rfl
  have kc : Tryz.prog.cellsOf 40 = 8 := by kernel_rfl
  have kg : Tryz.prog.cellsOf 42 = 11 := by kernel_rfl
  match l, hlen with
  | [a0, a1, a2, a3, a4, a5, a6, a7, a8, a9, a10, a11, a12, a13, a14, a15, a16, a17, a18, a19, a20, a21], _ =>
    match xs, hxl with
    | [y0, y1, y2, y3, y4], _ =>
      have f0 : DataW.trod enc Tryz.prog w base sp held n' 3 [a0] = some y0 := by have := hf 0 _ rfl; simpa [k3] using this
      have f1 : DataW.trod enc Tryz.prog w base sp held n' 40 [a1, a2, a3, a4, a5, a6, a7, a8] = some y1 := by have := hf 1 _ rfl; simpa [kc] using this
      have f2 : DataW.trod enc Tryz.prog w base sp held n' 3 [a9] = some y2 := by have := hf 2 _ rfl; simpa [k3] using this
      have f3 : DataW.trod enc Tryz.prog w base sp held n' 3 [a10] = some y3 := by have := hf 3 _ rfl; simpa [k3] using this
      have f4 : DataW.trod enc Tryz.prog w base sp held n' 42 [a11, a12, a13, a14, a15, a16, a17, a18, a19, a20, a21] = some y4 := by have := hf 4 _ rfl; simpa [kg] using this
      obtain ⟨i0, e0, _, _⟩ := DataW.trod_int Tryz.underlying3 f0
      obtain ⟨c, ec⟩ := open_callL f1
      obtain ⟨i2, e2, _, _⟩ := DataW.trod_int Tryz.underlying3 f2
      obtain ⟨i3, e3, _, _⟩ := DataW.trod_int Tryz.underlying3 f3
      obtain ⟨g, eg, hg⟩ := open_change2 f4
      simp at e0 e2 e3
      simp [K.cells] at ec
      simp [Cg.cells] at eg
      obtain ⟨c1, c2, c3, c4, c5, c6, c7, c8⟩ := ec
      obtain ⟨g0, g1, g2, g3, g4, g5, g6, g7, g8, g9, g10⟩ := eg
      subst e0 e2 e3 c1 c2 c3 c4 c5 c6 c7 c8 g0 g1 g2 g3 g4 g5 g6 g7 g8 g9 g10
      exact ⟨⟨i0, c, i2, i3, g⟩, rfl, hg⟩
theorem open_acts2 {fuel : Nat} {a : Option Addr} {len cap : Nat} {x : DataW H × List MemPlace} (h : DataW.trod enc Tryz.prog w base (fun _ => true) held fuel 25 [.slice a len cap] = some x) :
    len ≤ maxLen ∧ ∃ acts : List Dd, acts.length = len ∧ (∀ y ∈ acts, inI64 y.ch.ix) ∧ DdsAt w w.heap.size a acts := by
  rcases open_slice Tryz.underlying25 h with ⟨h0, _⟩ | ⟨ad, l, c, m, n, D, Pl, hcs, hb, hl, hm, hmm, hx, hi⟩
  · simp at h0
    obtain ⟨rfl, rfl, rfl⟩ := h0
    exact ⟨Nat.zero_le _, [], rfl, by simp, fun i hi => absurd hi (by simp)⟩
  · simp at hcs
    obtain ⟨rfl, rfl, rfl⟩ := hcs
    have e5 : Tryz.prog.cellsOf 44 = 22 := by kernel_rfl
    rw [e5] at hi
    simp only [if_true] at hmm
    subst hmm
    have hall : ∀ i, i < len → ∃ y : Dd, inI64 y.ch.ix ∧ ∀ j v, y.cells.toList[j]? = some v → w.cell? ((ad.add (i * 22)).add j) = some v := by
      intro i hil
      obtain ⟨cs', hc, ht⟩ := hi i (by omega)
      obtain ⟨y, rfl, hy⟩ := open_deed2 ht
      obtain ⟨_, _, hat⟩ := World.cells?_some hc
      refine ⟨y, hy, fun j v hj => ?_⟩
      have hj5 : j < 22 := (List.getElem?_eq_some_iff.1 hj).1
      rw [hat j hj5]; exact hj
    refine ⟨by omega, (List.range len).map fun i => if h : i < len then (hall i h).choose else zd, by simp, fun y hy => ?_, ?_⟩
    · obtain ⟨i, hi2, rfl⟩ := List.mem_map.1 hy
      have hil : i < len := by simpa using hi2
      simp only [hil, dif_pos]
      exact (hall i hil).choose_spec.1
    intro i hil
    have hil : i < len := by simpa using hil
    have hg : ((List.range len).map fun i => if h : i < len then (hall i h).choose else zd).getD i zd = (hall i hil).choose := by
      simp [hil]
    rw [hg]
    have hc := (hall i hil).choose_spec.2
    have hz := (hall 0 (by omega)).choose_spec.2 0 _ rfl
    have hspot : ad.spot = none := by
      have h0 : (ad.add (0 * 22)).add 0 = ad := by simp [Addr.add]
      rw [h0] at hz
      exact World.cell?_spot hz
    have hblk : ad.block < w.heap.size := by
      have := World.block_lt_of_cell? w _ hz
      simpa [Addr.add] using this
    obtain ⟨b, off, sp⟩ := ad
    simp only at hspot hblk
    subst hspot
    have e : ∀ j, ((⟨b, off, none⟩ : Addr).add (i * 22)).add j = ⟨b, off + i * 22 + j, none⟩ := by
      intro j
      unfold Addr.add
      by_cases h1 : i * 22 = 0 <;> by_cases h2 : j = 0 <;> simp [h1, h2]
    exact ⟨b, off, rfl, hblk, fun j u hu => (congrArg w.cell? (e j)).symm.trans (hc j u hu)⟩
end
/-- the outer blocks: the building, both books -/
structure XS (w wx : World) (g q7 q8 : Nat) (c : Cfg) (b : Bk) (o p : Option Addr) (u : U) (s t : Sl) : Prop where
  bel : Below w.heap.size w wx
  cat : CAt wx g c
  bk : BkAt wx q7 b o p
  at_ : BAt wx b o p
  uk : UkAt wx q8 u s t
  ua : UAt wx u s t
  lo : w.heap.size ≤ q7 ∧ w.heap.size ≤ q8
theorem XS.step {w W W' : World} {g q7 q8 : Nat} {c : Cfg} {b : Bk} {o p : Option Addr} {u : U} {s t : Sl} (h : XS w W g q7 q8 c b o p u s t) (hb : Below W.heap.size W W') : XS w W' g q7 q8 c b o p u s t :=
  ⟨h.bel.trans (hb.mono h.bel.size), h.cat.step hb, At.step h.bk hb, h.at_.step hb, At.step h.uk hb, h.ua.step hb, h.lo⟩
/-- and those of a round: the deed, both answers, both changes -/
structure YS (w wx : World) (g q7 q8 q11 q12 r13 r14 g9 : Nat) (c : Cfg) (b d : Bk) (o p o2 p2 : Option Addr) (u v : U) (s t s2 t2 : Sl) (x z : Cg) (y : Dd) : Prop where
  xs : XS w wx g q7 q8 c b o p u s t
  dk : BkAt wx q11 d o2 p2
  da : BAt wx d o2 p2
  vk : UkAt wx q12 v s2 t2
  va : UAt wx v s2 t2
  ck : CgAt wx r13 x
  wk : CgAt wx r14 z
  dd : DdAt wx g9 y
  ne : q7 ≠ q11 ∧ q8 ≠ q12 ∧ r13 ≠ r14
  lo : w.heap.size ≤ q11 ∧ w.heap.size ≤ q12 ∧ w.heap.size ≤ r13 ∧ w.heap.size ≤ r14
section
variable {w W W' : World} {g q7 q8 q11 q12 r13 r14 g9 : Nat} {c : Cfg} {b d : Bk} {o p o2 p2 : Option Addr} {u v : U} {s t s2 t2 : Sl} {x z : Cg} {y : Dd}
theorem YS.step (h : YS w W g q7 q8 q11 q12 r13 r14 g9 c b d o p o2 p2 u v s t s2 t2 x z y) (hb : Below W.heap.size W W') : YS w W' g q7 q8 q11 q12 r13 r14 g9 c b d o p o2 p2 u v s t s2 t2 x z y :=
  ⟨h.xs.step hb, At.step h.dk hb, h.da.step hb, At.step h.vk hb, h.va.step hb, At.step h.ck hb, At.step h.wk hb, At.step h.dd hb, h.ne, h.lo⟩
theorem YS.new (h : XS w W g q7 q8 c b o p u s t) (hd : DdAt W g9 y) : ∀ W', W' = (((W.alloc (.cells (b.cells o p) 32)).alloc (.cells (u.cells s t) 36)).alloc (.cells zg.cells 42)).alloc (.cells zg.cells 42) → YS w W' g q7 q8 W.heap.size (W.heap.size + 1) (W.heap.size + 1 + 1) (W.heap.size + 1 + 1 + 1) g9 c b b o p o p u u s t s t zg zg y := by
  rintro W' rfl
  obtain ⟨h1, h2, h3, h4, h5⟩ := new4 W (b.cells o p) (u.cells s t) zg.cells zg.cells 32 36 42 42
  have hs := h.bel.size
  have l7 := At.lt h.bk; have l8 := At.lt h.uk
  exact ⟨h.step h1, h2, h.at_.step h1, h3, h.ua.step h1, h4, h5, At.step hd h1, ⟨by omega, by omega, by omega⟩, by omega, by omega, by omega, by omega⟩
theorem YS.put_dk (h : YS w W g q7 q8 q11 q12 r13 r14 g9 c b d o p o2 p2 u v s t s2 t2 x z y) {b9 : Bk} {o9 p9 : Option Addr} (hd : BAt W b9 o9 p9) : YS w (W.setRow q11 (b9.cells o9 p9)) g q7 q8 q11 q12 r13 r14 g9 c b b9 o p o9 p9 u v s t s2 t2 x z y :=
  ⟨⟨setRow_below h.xs.bel h.lo.1 _, At.farRow h.xs.cat (At.ne h.xs.cat h.dk (by decide)), At.farRow h.xs.bk h.ne.1, h.xs.at_.farRow h.dk (by decide) (by decide), At.farRow h.xs.uk (At.ne h.xs.uk h.dk (by decide)), h.xs.ua.farRow h.dk (by decide), h.xs.lo⟩,
   At.setRow h.dk _, hd.farRow h.dk (by decide) (by decide), At.farRow h.vk (At.ne h.vk h.dk (by decide)), h.va.farRow h.dk (by decide), At.farRow h.ck (At.ne h.ck h.dk (by decide)), At.farRow h.wk (At.ne h.wk h.dk (by decide)), At.farRow h.dd (At.ne h.dd h.dk (by decide)), h.ne, h.lo⟩
theorem YS.put_vk (h : YS w W g q7 q8 q11 q12 r13 r14 g9 c b d o p o2 p2 u v s t s2 t2 x z y) {u9 : U} {s9 t9 : Sl} (hd : UAt W u9 s9 t9) : YS w (W.setRow q12 (u9.cells s9 t9)) g q7 q8 q11 q12 r13 r14 g9 c b d o p o2 p2 u u9 s t s9 t9 x z y :=
  ⟨⟨setRow_below h.xs.bel h.lo.2.1 _, At.farRow h.xs.cat (At.ne h.xs.cat h.vk (by decide)), At.farRow h.xs.bk (At.ne h.xs.bk h.vk (by decide)), h.xs.at_.farRow h.vk (by decide) (by decide), At.farRow h.xs.uk h.ne.2.1, h.xs.ua.farRow h.vk (by decide), h.xs.lo⟩,
   At.farRow h.dk (At.ne h.dk h.vk (by decide)), h.da.farRow h.vk (by decide) (by decide), At.setRow h.vk _, hd.farRow h.vk (by decide), At.farRow h.ck (At.ne h.ck h.vk (by decide)), At.farRow h.wk (At.ne h.wk h.vk (by decide)), At.farRow h.dd (At.ne h.dd h.vk (by decide)), h.ne, h.lo⟩
theorem YS.put_ck (h : YS w W g q7 q8 q11 q12 r13 r14 g9 c b d o p o2 p2 u v s t s2 t2 x z y) (x9 : Cg) : YS w (W.setRow r13 (x9.cells)) g q7 q8 q11 q12 r13 r14 g9 c b d o p o2 p2 u v s t s2 t2 x9 z y :=
  ⟨⟨setRow_below h.xs.bel h.lo.2.2.1 _, At.farRow h.xs.cat (At.ne h.xs.cat h.ck (by decide)), At.farRow h.xs.bk (At.ne h.xs.bk h.ck (by decide)), h.xs.at_.farRow h.ck (by decide) (by decide), At.farRow h.xs.uk (At.ne h.xs.uk h.ck (by decide)), h.xs.ua.farRow h.ck (by decide), h.xs.lo⟩,
   At.farRow h.dk (At.ne h.dk h.ck (by decide)), h.da.farRow h.ck (by decide) (by decide), At.farRow h.vk (At.ne h.vk h.ck (by decide)), h.va.farRow h.ck (by decide), At.setRow h.ck _, At.farRow h.wk (Ne.symm h.ne.2.2), At.farRow h.dd (At.ne h.dd h.ck (by decide)), h.ne, h.lo⟩
theorem YS.put_wk (h : YS w W g q7 q8 q11 q12 r13 r14 g9 c b d o p o2 p2 u v s t s2 t2 x z y) (x9 : Cg) : YS w (W.setRow r14 (x9.cells)) g q7 q8 q11 q12 r13 r14 g9 c b d o p o2 p2 u v s t s2 t2 x x9 y :=
  ⟨⟨setRow_below h.xs.bel h.lo.2.2.2 _, At.farRow h.xs.cat (At.ne h.xs.cat h.wk (by decide)), At.farRow h.xs.bk (At.ne h.xs.bk h.wk (by decide)), h.xs.at_.farRow h.wk (by decide) (by decide), At.farRow h.xs.uk (At.ne h.xs.uk h.wk (by decide)), h.xs.ua.farRow h.wk (by decide), h.xs.lo⟩,
   At.farRow h.dk (At.ne h.dk h.wk (by decide)), h.da.farRow h.wk (by decide) (by decide), At.farRow h.vk (At.ne h.vk h.wk (by decide)), h.va.farRow h.wk (by decide), At.farRow h.ck h.ne.2.2, At.setRow h.wk _, At.farRow h.dd (At.ne h.dd h.wk (by decide)), h.ne, h.lo⟩
theorem YS.put_bk (h : YS w W g q7 q8 q11 q12 r13 r14 g9 c b d o p o2 p2 u v s t s2 t2 x z y) {b9 : Bk} {o9 p9 : Option Addr} (hd : BAt W b9 o9 p9) : YS w (W.setRow q7 (b9.cells o9 p9)) g q7 q8 q11 q12 r13 r14 g9 c b9 d o9 p9 o2 p2 u v s t s2 t2 x z y :=
  ⟨⟨setRow_below h.xs.bel h.xs.lo.1 _, At.farRow h.xs.cat (At.ne h.xs.cat h.xs.bk (by decide)), At.setRow h.xs.bk _, hd.farRow h.xs.bk (by decide) (by decide), At.farRow h.xs.uk (At.ne h.xs.uk h.xs.bk (by decide)), h.xs.ua.farRow h.xs.bk (by decide), h.xs.lo⟩,
   At.farRow h.dk (Ne.symm h.ne.1), h.da.farRow h.xs.bk (by decide) (by decide), At.farRow h.vk (At.ne h.vk h.xs.bk (by decide)), h.va.farRow h.xs.bk (by decide), At.farRow h.ck (At.ne h.ck h.xs.bk (by decide)), At.farRow h.wk (At.ne h.wk h.xs.bk (by decide)), At.farRow h.dd (At.ne h.dd h.xs.bk (by decide)), h.ne, h.lo⟩
theorem YS.put_uk (h : YS w W g q7 q8 q11 q12 r13 r14 g9 c b d o p o2 p2 u v s t s2 t2 x z y) {u9 : U} {s9 t9 : Sl} (hd : UAt W u9 s9 t9) : YS w (W.setRow q8 (u9.cells s9 t9)) g q7 q8 q11 q12 r13 r14 g9 c b d o p o2 p2 u9 v s9 t9 s2 t2 x z y :=
  ⟨⟨setRow_below h.xs.bel h.xs.lo.2 _, At.farRow h.xs.cat (At.ne h.xs.cat h.xs.uk (by decide)), At.farRow h.xs.bk (At.ne h.xs.bk h.xs.uk (by decide)), h.xs.at_.farRow h.xs.uk (by decide) (by decide), At.setRow h.xs.uk _, hd.farRow h.xs.uk (by decide), h.xs.lo⟩,
   At.farRow h.dk (At.ne h.dk h.xs.uk (by decide)), h.da.farRow h.xs.uk (by decide) (by decide), At.farRow h.vk (Ne.symm h.ne.2.1), h.va.farRow h.xs.uk (by decide), At.farRow h.ck (At.ne h.ck h.xs.uk (by decide)), At.farRow h.wk (At.ne h.wk h.xs.uk (by decide)), At.farRow h.dd (At.ne h.dd h.xs.uk (by decide)), h.ne, h.lo⟩
end
theorem Tie.mono {b : Bk} {u : U} {j k : Nat} (h : Tie b u j) (hk : j ≤ k) : Tie b u k :=
  ⟨h.rel, h.ok, by have := h.uix; omega, Nat.le_trans h.ul hk, Nat.le_trans h.ud hk, h.is, h.okc, h.rl, h.rd, h.kl, h.kd, h.room, h.cl, h.cd, h.md⟩
end Go.Proofs.YtodacdooooeofaaGreat
