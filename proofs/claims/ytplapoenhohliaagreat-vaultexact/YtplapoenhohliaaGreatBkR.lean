import Derived.Test.YtplapoenhohliaaGreatVtD
import Derived.ProofKit
import Derived.OpenShut
import Derived.ChangeSame
import Derived.ChangeSlices
import Derived.ChangeOld
import Derived.PlainAid
import Derived.Deep.Slices
import Derived.Deep.Fields
import Derived.Test.YtplapoenhohliaaGreatOrder4
namespace Go.Proofs.YtplapoenhohliaaGreat
open Go.ChangeShapes Go.WideShapes Go.ChangeAt Go.RowKit Go.Lib Go.Deep
set_option linter.unusedVariables false
set_option maxRecDepth 100000
set_option linter.unusedSimpArgs false
variable {H : Type} {enc : TypeId × Value → H} {w : World} {base : Nat} {sp : Nat → Bool} {held : Bool}
def inI64 (x : Int) : Prop := -9223372036854775808 ≤ x ∧ x ≤ 9223372036854775807
theorem wf_i64 {n : Int} (h : (Lit.int .i64 n).wf = true) : inI64 n := by
 simp [Lit.wf, IntKind.min, IntKind.max, IntKind.bits, IntKind.signed] at h
 unfold inI64; omega
def intOf' : Value → Int
 | .int _ n => n
 | _ => 0
theorem flds24 : ∃ fs : Array Field, Tryz.prog.underlying 24 = some (.struct fs) ∧ (∀ k, k < 17 → ∃ f, fs[k]? = some f ∧ f.type = 3 ∧ f.offset = k) ∧ ∃ f, fs[17]? = some f ∧ f.type = 22 ∧ f.offset = 17 := by
 refine ⟨_, Tryz.underlying24, fun k hk => ?_, ⟨_, rfl, rfl, rfl⟩⟩
 match k, hk with
 | 0, _ => exact ⟨_, rfl, rfl, rfl⟩
 | 1, _ => exact ⟨_, rfl, rfl, rfl⟩
 | 2, _ => exact ⟨_, rfl, rfl, rfl⟩
 | 3, _ => exact ⟨_, rfl, rfl, rfl⟩
 | 4, _ => exact ⟨_, rfl, rfl, rfl⟩
 | 5, _ => exact ⟨_, rfl, rfl, rfl⟩
 | 6, _ => exact ⟨_, rfl, rfl, rfl⟩
 | 7, _ => exact ⟨_, rfl, rfl, rfl⟩
 | 8, _ => exact ⟨_, rfl, rfl, rfl⟩
 | 9, _ => exact ⟨_, rfl, rfl, rfl⟩
 | 10, _ => exact ⟨_, rfl, rfl, rfl⟩
 | 11, _ => exact ⟨_, rfl, rfl, rfl⟩
 | 12, _ => exact ⟨_, rfl, rfl, rfl⟩
 | 13, _ => exact ⟨_, rfl, rfl, rfl⟩
 | 14, _ => exact ⟨_, rfl, rfl, rfl⟩
 | 15, _ => exact ⟨_, rfl, rfl, rfl⟩
 | 16, _ => exact ⟨_, rfl, rfl, rfl⟩
 | n + 17, h => exact absurd h (by omega)
theorem one_cell {l : List Value} {k : Nat} {v : Value} (h : (l.drop k).take 1 = [v]) : l[k]? = some v := by
 have : ((l.drop k).take 1)[0]? = some v := by rw [h]; rfl
 rw [List.getElem?_take_of_lt (by omega), List.getElem?_drop] at this
 simpa using this
theorem open_cfg {fuel : Nat} {cs : Array Value} {x : DataW H × List MemPlace} (h : DataW.trod enc Tryz.prog w base sp held fuel 24 cs.toList = some x) : ∃ c : Cfg, cs = c.cells := by
 obtain ⟨fs, hu, hf, f17, hf17, ht17, ho17⟩ := flds24
 obtain ⟨xs, n, _, rfl, hl, hlen, hall⟩ := DataW.trod_struct hu h
 have h18 : cs.toList.length = 18 := by rw [hl]; kernel_rfl
 have hfs : 17 < fs.size := (Array.getElem?_eq_some_iff.1 hf17).1
 have c3 : Tryz.prog.cellsOf 3 = 1 := by kernel_rfl
 have c22 : Tryz.prog.cellsOf 22 = 1 := by kernel_rfl
 have hk : ∀ k, k < 17 → ∃ z : Int, cs.toList[k]? = some (.int .i64 z) := by
  intro k hk
  obtain ⟨f, h1, h2, h3⟩ := hf k hk
  have := hall k f h1
  rw [h2, h3, c3] at this
  have hx : xs[k]? = some xs[k] := List.getElem?_eq_getElem (by omega)
  rw [hx] at this
  obtain ⟨z, e1, _, _⟩ := DataW.trod_int Tryz.underlying3 this
  exact ⟨z, one_cell e1⟩
 obtain ⟨s, hs⟩ : ∃ s : Int, cs.toList[17]? = some (.int .u32 s) := by
  have := hall 17 f17 hf17
  rw [ht17, ho17, c22] at this
  have hx : xs[17]? = some xs[17] := List.getElem?_eq_getElem (by omega)
  rw [hx] at this
  obtain ⟨z, e1, _, _⟩ := DataW.trod_int Tryz.underlying22 this
  exact ⟨z, one_cell e1⟩
 refine ⟨⟨(List.range 17).map (fun k => intOf' (cs.toList.getD k undef)), s, by simp⟩, ?_⟩
 apply Array.toList_inj.1
 apply List.ext_getElem?
 intro i
 by_cases h1 : i < 17
 ·obtain ⟨z, hz⟩ := hk i h1
  rw [hz]
  have e : intOf' (cs.toList.getD i undef) = z := by rw [List.getD_eq_getElem?_getD, hz]; rfl
  simp only [Cfg.cells, List.toList_toArray]
  rw [List.getElem?_append_left (by simp; exact h1)]
  simp [h1, e]
  rw [List.getD_eq_getElem?_getD, Array.getElem?_toList] at e
  exact e.symm
 ·by_cases h2 : i = 17
  ·subst h2
   rw [hs]
   simp [Cfg.cells]
  ·rw [List.getElem?_eq_none (by omega), List.getElem?_eq_none (by simp [Cfg.cells]; omega)]
theorem cfg_arg {t : Value} {r : Reach} {b0 : Nat} (hv : Value.okWide Tryz.prog w r b0 24 t) {d : DataW H} {ps : List MemPlace} (h : DataW.Trod enc Tryz.prog w base sp held 24 t d ps) : ∃ c : Cfg, t = c.V := by
 obtain ⟨cs, rfl, _, _⟩ : ∃ cs, t = .agg cs ∧ cs.size = Tryz.prog.cellsOf 24 ∧ Row.okWide Tryz.prog w r b0 24 cs := by
  simpa [Value.okWide, Tryz.underlying24] using hv
 obtain ⟨fuel, hf⟩ := h
 obtain ⟨c, rfl⟩ := open_cfg (cs := cs) hf
 exact ⟨c, rfl⟩
theorem flds26 : ∃ fs : Array Field, Tryz.prog.underlying 46 = some (.struct fs) ∧ (∀ k, k < 8 → ∃ f, fs[k]? = some f ∧ f.type = 3 ∧ f.offset = k) := by
 refine ⟨_, Tryz.underlying46, fun k hk => ?_⟩
 match k, hk with
 | 0, _ => exact ⟨_, rfl, rfl, rfl⟩
 | 1, _ => exact ⟨_, rfl, rfl, rfl⟩
 | 2, _ => exact ⟨_, rfl, rfl, rfl⟩
 | 3, _ => exact ⟨_, rfl, rfl, rfl⟩
 | 4, _ => exact ⟨_, rfl, rfl, rfl⟩
 | 5, _ => exact ⟨_, rfl, rfl, rfl⟩
 | 6, _ => exact ⟨_, rfl, rfl, rfl⟩
 | 7, _ => exact ⟨_, rfl, rfl, rfl⟩
 | n + 8, h => exact absurd h (by omega)
theorem open_call {fuel : Nat} {cs : Array Value} {x : DataW H × List MemPlace} (h : DataW.trod enc Tryz.prog w base sp held fuel 46 cs.toList = some x) : ∃ c : K, cs = c.cells := by
 obtain ⟨fs, hu, hf⟩ := flds26
 obtain ⟨xs, n, _, rfl, hl, hlen, hall⟩ := DataW.trod_struct hu h
 have h8 : cs.toList.length = 8 := by rw [hl]; kernel_rfl
 have c3 : Tryz.prog.cellsOf 3 = 1 := by kernel_rfl
 have hk : ∀ k, k < 8 → ∃ z : Int, cs.toList[k]? = some (.int .i64 z) := by
  intro k hk
  obtain ⟨f, h1, h2, h3⟩ := hf k hk
  have hfs : k < fs.size := (Array.getElem?_eq_some_iff.1 h1).1
  have := hall k f h1
  rw [h2, h3, c3] at this
  have hx : xs[k]? = some xs[k] := List.getElem?_eq_getElem (by omega)
  rw [hx] at this
  obtain ⟨z, e1, _, _⟩ := DataW.trod_int Tryz.underlying3 this
  exact ⟨z, one_cell e1⟩
 obtain ⟨z0, e0⟩ := hk 0 (by omega)
 obtain ⟨z1, e1⟩ := hk 1 (by omega)
 obtain ⟨z2, e2⟩ := hk 2 (by omega)
 obtain ⟨z3, e3⟩ := hk 3 (by omega)
 obtain ⟨z4, e4⟩ := hk 4 (by omega)
 obtain ⟨z5, e5⟩ := hk 5 (by omega)
 obtain ⟨z6, e6⟩ := hk 6 (by omega)
 obtain ⟨z7, e7⟩ := hk 7 (by omega)
 refine ⟨⟨z0, z1, z2, z3, z4, z5, z6, z7⟩, ?_⟩
 apply Array.toList_inj.1
 apply List.ext_getElem?
 intro i
 match i with
 | 0 => rw [e0]; rfl
 | 1 => rw [e1]; rfl
 | 2 => rw [e2]; rfl
 | 3 => rw [e3]; rfl
 | 4 => rw [e4]; rfl
 | 5 => rw [e5]; rfl
 | 6 => rw [e6]; rfl
 | 7 => rw [e7]; rfl
 | n + 8 => rw [List.getElem?_eq_none (by omega)]; rfl
def IntsAt (w : World) (B : Nat) (A : Option Addr) (zs : List Int) : Prop :=
 ∀ i, i < zs.length → ∃ b off, A = some ⟨b, off, none⟩ ∧ b < B ∧ w.cell? ⟨b, off + i, none⟩ = some (.int .i64 (zs.getD i 0))
structure Dd where
 kind : Int
 who : Int
 x : K
 n : Int
def Dd.cells (y : Dd) : Array Value := #[.int .i64 y.kind, .int .i64 y.who, .int .i64 y.x.id, .int .i64 y.x.kind, .int .i64 y.x.frm, .int .i64 y.x.dto, .int .i64 y.x.car, .int .i64 y.x.st, .int .i64 y.x.own, .int .i64 y.x.born, .int .i64 y.n]
abbrev Dd.V (y : Dd) : Value := .agg y.cells
def zd : Dd := ⟨0, 0, zk, 0⟩
theorem open_callL {fuel : Nat} {l : List Value} {x : DataW H × List MemPlace} (h : DataW.trod enc Tryz.prog w base sp held fuel 46 l = some x) : ∃ c : K, l = c.cells.toList := by
 obtain ⟨c, hc⟩ := open_call (cs := l.toArray) (by simpa using h)
 exact ⟨c, by rw [← hc]⟩
def Dd.wf (y : Dd) : Prop := inI64 y.kind ∧ inI64 y.who ∧ inI64 y.n
theorem open_deed {fuel : Nat} {l : List Value} {x : DataW H × List MemPlace} (h : DataW.trod enc Tryz.prog w base sp held fuel 58 l = some x) : ∃ y : Dd, l = y.cells.toList ∧ y.wf := by
 obtain ⟨xs, n', _, _, hlen, hxl, hf⟩ := DataW.trod_struct Tryz.underlying58 h
 have e5 : Tryz.prog.cellsOf 58 = 11 := by kernel_rfl
 rw [e5] at hlen
 have k3 : Tryz.prog.cellsOf 3 = 1 := by kernel_rfl
 have kc : Tryz.prog.cellsOf 46 = 8 := by kernel_rfl
 match l, hlen with
 | [a0, a1, a2, a3, a4, a5, a6, a7, a8, a9, a10], _ =>
  match xs, hxl with
  | [y0, y1, y2, y3], _ =>
   have f0 : DataW.trod enc Tryz.prog w base sp held n' 3 [a0] = some y0 := by have := hf 0 _ rfl; simpa [k3] using this
   have f1 : DataW.trod enc Tryz.prog w base sp held n' 3 [a1] = some y1 := by have := hf 1 _ rfl; simpa [k3] using this
   have f2 : DataW.trod enc Tryz.prog w base sp held n' 46 [a2, a3, a4, a5, a6, a7, a8, a9] = some y2 := by have := hf 2 _ rfl; simpa [kc] using this
   have f3 : DataW.trod enc Tryz.prog w base sp held n' 3 [a10] = some y3 := by have := hf 3 _ rfl; simpa [k3] using this
   obtain ⟨i0, e0, _, w0⟩ := DataW.trod_int Tryz.underlying3 f0
   obtain ⟨i1, e1, _, w1⟩ := DataW.trod_int Tryz.underlying3 f1
   obtain ⟨c, ec⟩ := open_callL f2
   obtain ⟨i3, e3, _, w3⟩ := DataW.trod_int Tryz.underlying3 f3
   simp at e0 e1 e3
   simp [K.cells] at ec
   obtain ⟨c1, c2, c3, c4, c5, c6, c7, c8⟩ := ec
   subst e0 e1 e3 c1 c2 c3 c4 c5 c6 c7 c8
   exact ⟨⟨i0, i1, c, i3⟩, rfl, wf_i64 w0, wf_i64 w1, wf_i64 w3⟩
def DdsAt (w : World) (B : Nat) (A : Option Addr) (ds : List Dd) : Prop :=
 ∀ i, i < ds.length → ∃ b off, A = some ⟨b, off, none⟩ ∧ b < B ∧ w.rangeAt b (off + i * 11) (ds.getD i zd).cells.toList
theorem open_acts {fuel : Nat} {a : Option Addr} {len cap : Nat} {x : DataW H × List MemPlace} (h : DataW.trod enc Tryz.prog w base (fun _ => true) held fuel 25 [.slice a len cap] = some x) :
  len ≤ maxLen ∧ ∃ acts : List Dd, acts.length = len ∧ (∀ y ∈ acts, y.wf) ∧ DdsAt w w.heap.size a acts := by
 rcases open_slice Tryz.underlying25 h with ⟨h0, _⟩ | ⟨ad, l, c, m, n, D, Pl, hcs, hb, hl, hm, hmm, hx, hi⟩
 ·simp at h0
  obtain ⟨rfl, rfl, rfl⟩ := h0
  exact ⟨Nat.zero_le _, [], rfl, by simp, fun i hi => absurd hi (by simp)⟩
 ·simp at hcs
  obtain ⟨rfl, rfl, rfl⟩ := hcs
  have e5 : Tryz.prog.cellsOf 58 = 11 := by kernel_rfl
  rw [e5] at hi
  simp only [if_true] at hmm
  subst hmm
  have hall : ∀ i, i < len → ∃ y : Dd, y.wf ∧ ∀ j v, y.cells.toList[j]? = some v → w.cell? ((ad.add (i * 11)).add j) = some v := by
   intro i hil
   obtain ⟨cs', hc, ht⟩ := hi i (by omega)
   obtain ⟨y, rfl, hwf⟩ := open_deed ht
   obtain ⟨_, _, hat⟩ := World.cells?_some hc
   refine ⟨y, hwf, fun j v hj => ?_⟩
   have hj5 : j < 11 := (List.getElem?_eq_some_iff.1 hj).1
   rw [hat j hj5]; exact hj
  refine ⟨by omega, (List.range len).map fun i => if h : i < len then (hall i h).choose else zd, by simp, fun y hy => ?_, ?_⟩
  ·obtain ⟨i, hi, rfl⟩ := List.mem_map.1 hy
   have hil : i < len := by simpa using hi
   rw [dif_pos hil]
   exact (hall i hil).choose_spec.1
  intro i hil
  have hil : i < len := by simpa using hil
  have hg : ((List.range len).map fun i => if h : i < len then (hall i h).choose else zd).getD i zd = (hall i hil).choose := by
   simp [hil]
  rw [hg]
  have hc := (hall i hil).choose_spec.2
  have hz := (hall 0 (by omega)).choose_spec.2 0 _ rfl
  have hspot : ad.spot = none := by
   have h0 : (ad.add (0 * 11)).add 0 = ad := by simp [Addr.add]
   rw [h0] at hz
   exact World.cell?_spot hz
  have hblk : ad.block < w.heap.size := by
   have := World.block_lt_of_cell? w _ hz
   simpa [Addr.add] using this
  obtain ⟨b, off, sp⟩ := ad
  simp only at hspot hblk
  subst hspot
  have e : ∀ j, ((⟨b, off, none⟩ : Addr).add (i * 11)).add j = ⟨b, off + i * 11 + j, none⟩ := by
   intro j
   unfold Addr.add
   by_cases h1 : i * 11 = 0 <;> by_cases h2 : j = 0 <;> simp [h1, h2]
  exact ⟨b, off, rfl, hblk, fun j u hu => (congrArg w.cell? (e j)).symm.trans (hc j u hu)⟩
end Go.Proofs.YtplapoenhohliaaGreat
/- What a book is behind places alone; two cancels in either order. No Go text. -/
namespace Go.Proofs.YtplapoenhohliaaGreat
open Go.RowKit Go.Lib
open Sh.Plain (KV get put del Rise)
set_option linter.unusedVariables false
set_option linter.unusedSimpArgs false
theorem mem_put {k : Int} {v : K} : ∀ {l : List KV} {p : KV}, p ∈ put k v l → p = (k, v) ∨ p ∈ l
 | [], p, h => by simp [put] at h; exact .inl h
 | x :: l, p, h => by
  unfold put at h
  split at h
  ·rcases List.mem_cons.1 h with rfl | h
   ·exact .inr (List.mem_cons_self ..)
   ·rcases mem_put h with h | h
    ·exact .inl h
    ·exact .inr (List.mem_cons_of_mem _ h)
  ·split at h
   ·rcases List.mem_cons.1 h with h | h
    ·exact .inl h
    ·exact .inr (List.mem_cons_of_mem _ h)
   ·rcases List.mem_cons.1 h with h | h
    ·exact .inl h
    ·exact .inr h
theorem mem_wput {rm : Nat} {k : Int} {v : K} {l : List KV} {p : KV} (h : p ∈ Sh.wput rm k v l) : p = (k, v) ∨ p ∈ l := by
 unfold Sh.wput at h
 split at h
 ·exact mem_put h
 ·exact .inr h
theorem livesK_of {k : K} (h : k.st = 1 ∨ k.st = 2 ∨ k.st = 3) : livesK k = true := decide_eq_true h
theorem newA_k {c : Cfg} {x : K} {i n m : Int} (h : (newA c x i n m).2 = 0) : okc c = true ∧ (newA c x i n m).1 = { x with id := i, own := n, born := m, st := 1 } ∧ 1 ≤ i ∧ i ≤ top := by
 have hok := newA_okc h
 by_cases h0 : chkK c x = 0
 ·by_cases h2 : i < 1 ∨ n < 1 ∨ m < 0 ∨ top < max (max i n) m
  ·rw [newA_arg h0 h2] at h; exact absurd h (by decide)
  ·rw [newA_ok h0 h2]
   refine ⟨hok, rfl, by omega, ?_⟩
   have : ¬ top < max (max i n) m := fun e => h2 (.inr (.inr (.inr e)))
   omega
 ·rw [newA_no h0] at h; exact absurd h h0
theorem changedB_ok {b : Bk} {x : Cg} (h : (changedB b x).2.2 = 0) : b.ix ≠ top ∧ changedB b x = (withB b { x with ix := b.ix + 1 }, { x with ix := b.ix + 1 }, 0) := by
 by_cases e : b.ix = top
 ·have : changedB b x = (zb, zg, 5) := if_pos e
  rw [this] at h; exact absurd h (by decide)
 ·exact ⟨e, if_neg e⟩
theorem placeB_ok {b : Bk} {x : K} {n m : Int} (h : (placeB b x n m).2.2 = 0) : okc b.c = true ∧ b.ix ≠ top ∧ b.live.length ≠ b.rm ∧ placeB b x n m = ({ b with ix := b.ix + 1, live := Sh.wput b.rm (b.ix + 1) { x with id := b.ix + 1, own := n, born := m, st := 1 } b.live }, ⟨b.ix + 1, { x with id := b.ix + 1, own := n, born := m, st := 1 }, 0, 0⟩, 0) := by
 by_cases h0 : (newA b.c x (b.ix + 1) n m).2 = 0
 ·obtain ⟨h1, h2, h3⟩ := newA_k h0
  by_cases hf : b.live.length = b.rm
  ·have : placeB b x n m = (zb, zg, 5) := by unfold placeB; rw [if_neg (by rw [h0]; decide), if_pos hf]
   rw [this] at h; exact absurd h (by decide)
  ·have e : placeB b x n m = changedB b ⟨0, (newA b.c x (b.ix + 1) n m).1, 0, 0⟩ := by unfold placeB; rw [if_neg (by rw [h0]; decide), if_neg hf]
   rw [e] at h
   obtain ⟨hi, e2⟩ := changedB_ok h
   refine ⟨h1, hi, hf, ?_⟩
   rw [e, e2, h2, withB_live rfl (livesK_of (.inl rfl))]
 ·have : placeB b x n m = (zb, zg, (newA b.c x (b.ix + 1) n m).2) := if_pos h0
  rw [this] at h; exact absurd h h0
structure Pl (s : Bk) (j : Nat) : Prop where
 ok : s.Ok
 ixj : s.ix ≤ j
 done : s.done = []
 keys : ∀ p ∈ s.live, p.1 = p.2.id ∧ p.2.st = 1
 mode : s.c.beq zc = false → modeB s 1 ≠ 0
 nil : s.c.beq zc = true → s.live = []
theorem zb_ok : zb.Ok := ⟨fun h => absurd (h.symm.trans (Cfg.beq_self zc)) (by decide), by decide⟩
theorem cfg_nums {c : Cfg} (h : okc c = true) : (1 ≤ c.get 3 ∧ c.get 3 ≤ 64) ∧ (1 ≤ c.get 1 ∧ c.get 1 ≤ 4) := by
 have h3 : lo 3 ≤ c.get 3 ∧ c.get 3 ≤ hi 3 := ok_at h (by decide)
 have h1 : lo 1 ≤ c.get 1 ∧ c.get 1 ≤ hi 1 := ok_at h (by decide)
 exact ⟨h3, h1⟩
theorem newBk_ok {c : Cfg} (j : Nat) (h : okc c = true) : (newBk c j).Ok := by
 obtain ⟨h3, h1⟩ := cfg_nums h
 exact ⟨fun _ => by show 0 < (c.get 3).toNat; omega, by show (0 : Int) ≤ 0 ∧ (0 : Int) ≤ top; decide⟩
theorem Pl.new (c : Cfg) : Pl (newB c) 0 := by
 unfold newB
 cases h : okc c
 ·rw [if_neg (by decide)]
  exact ⟨zb_ok, by decide, rfl, by simp [zb], fun h => absurd (h.symm.trans (Cfg.beq_self zc)) (by decide), fun _ => rfl⟩
 ·rw [if_pos rfl]
  obtain ⟨h3, h1⟩ := cfg_nums h
  refine ⟨newBk_ok _ h, by show (0 : Int) ≤ 0; omega, rfl, by simp [newBk], fun _ => ?_, fun _ => rfl⟩
  have e : modeB (newBk c (c.get 1).toNat) 1 = (modesTo (c.get 1).toNat).getD 0 0 := rfl
  rw [e]
  obtain ⟨n, hn⟩ : ∃ n, (c.get 1).toNat = n + 1 := ⟨(c.get 1).toNat - 1, by omega⟩
  rw [hn]
  simp [modesTo]
structure Two6 (s : Bk) (a b md : Int) (x y : K) (p q r u v w : Bk) (gp gq gr gu gv gw : Cg) : Prop where
 e1 : cancelB s a x.own = (p, gp, 0)
 e2 : setB p 1 md = (q, gq, 0)
 e3 : cancelB q b y.own = (r, gr, 0)
 e4 : cancelB s b y.own = (u, gu, 0)
 e5 : cancelB u a x.own = (v, gv, 0)
 e6 : setB v 1 md = (w, gw, 0)
 ok : p.Ok ∧ q.Ok ∧ u.Ok ∧ v.Ok
 live : r.live = w.live
 ix : r.ix = w.ix
 mode : modeB r 1 = modeB w 1
 len : (r.live.length : Int) = (s.live.length : Int) - 2
end Go.Proofs.YtplapoenhohliaaGreat
namespace Go.Proofs.YtplapoenhohliaaGreat
open Go.RowKit Go.Lib
open Sh.Plain (KV put del Rise)
set_option linter.unusedVariables false
set_option linter.unusedSimpArgs false
theorem applyB_ok {b d : Bk} {x : Cg} (h : applyB b x = (d, 0)) : b.c.beq zc = false ∧ x.ix = b.ix + 1 ∧ (isPlB b x || isOnB b x || isSetB b x) = true ∧ b.ix ≠ top ∧ d = withB b x := by
 unfold applyB at h
 split at h
 ·exact absurd (congrArg Prod.snd h) (show (3 : Int) ≠ 0 by decide)
 ·next h0 =>
  split at h
  ·exact absurd (congrArg Prod.snd h) (show (1 : Int) ≠ 0 by decide)
  ·next h1 =>
   split at h
   ·exact absurd (congrArg Prod.snd h) (show (5 : Int) ≠ 0 by decide)
   ·next h2 =>
    refine ⟨by simpa using h0, ?_, ?_, fun e => h2 (.inr e), (congrArg Prod.fst h).symm⟩
    ·exact Decidable.byContradiction fun e => h1 (.inl e)
    ·cases e : (isPlB b x || isOnB b x || isSetB b x)
     ·exact absurd (.inr e) h1
     ·rfl
theorem applyB_as {b : Bk} {x : Cg} (h0 : b.c.beq zc = false) (h1 : x.ix = b.ix + 1) (h2 : (isPlB b x || isOnB b x || isSetB b x) = true) (h3 : ¬ (isPlB b x = true ∧ b.live.length = b.rm)) (h4 : b.ix ≠ top) : applyB b x = (withB b x, 0) := by
 unfold applyB
 rw [if_neg (by rw [h0]; decide), if_neg (fun h => h.elim (fun h => h h1) (fun h => by rw [h2] at h; cases h)), if_neg (fun h => h.elim h3 h4)]
theorem isPl_k {b : Bk} {x : Cg} (h : isPlB b x = true) : x.car = 0 ∧ x.k.st = 1 ∧ x.k.id = x.ix := by
 unfold isPlB at h
 rw [Bool.and_eq_true] at h
 obtain ⟨h1, h2⟩ := h
 have h1 : (newA b.c (plainK x.k) x.ix x.k.own x.k.born).2 = 0 := by simpa using h1
 obtain ⟨_, e, _⟩ := newA_k h1
 rw [e] at h2
 have h3 := Cg.beq_iff.1 h2
 refine ⟨by rw [h3], by rw [h3], ?_⟩
 have := congrArg (fun z => z.k.id) h3
 exact this
theorem get_wput_ne {rm : Nat} {k j : Int} {v : K} {l : List KV} (hr : Rise l) (h : j ≠ k) : Sh.Plain.get j (Sh.wput rm k v l) = Sh.Plain.get j l := by
 unfold Sh.wput
 split
 ·rw [Sh.Plain.get_put hr, if_neg h]
 ·rfl
theorem mem_del {k : Int} {l : List KV} {p : KV} (h : p ∈ del k l) : p ∈ l := (List.mem_filter.1 h).1
theorem mem_roomy {rm : Nat} {l : List KV} {p : KV} (h : p ∈ roomyL rm l) : p ∈ l := by
 unfold roomyL at h
 split at h
 ·exact h
 ·cases l with
  | nil => exact h
  | cons x l => exact mem_del h
def runB : Bk → List Cg → Option Bk
 | s, [] => some s
 | s, x :: xs => if (applyB s x).2 = 0 then runB (applyB s x).1 xs else none
theorem runB_snoc {b d : Bk} {x : Cg} (h : applyB b x = (d, 0)) : ∀ {s : Bk} {xs : List Cg}, runB s xs = some b → runB s (xs ++ [x]) = some d
 | s, [], hr => by
  have : s = b := by simpa [runB] using hr
  subst this
  show (if (applyB s x).2 = 0 then runB (applyB s x).1 [] else none) = some d
  rw [h]; rfl
 | s, y :: xs, hr => by
  unfold runB at hr
  show (if (applyB s y).2 = 0 then runB (applyB s y).1 (xs ++ [x]) else none) = some d
  split at hr
  ·next e => rw [if_pos e]; exact runB_snoc h hr
  ·cases hr
structure RPl (c : Cfg) (b : Bk) (xs : List Cg) (F : Int → Bool) : Prop where
 ok : b.Ok
 len : b.ix = (xs.length : Int)
 run : runB (newB c) xs = some b
 keys : ∀ p ∈ b.live, p.1 = p.2.id ∧ livesK p.2 = true ∧ 1 ≤ p.1 ∧ p.1 ≤ b.ix
 dn : ∀ p ∈ b.done, livesK p.2 = false
 fin : ∀ x, F x = true → 1 ≤ x ∧ x ≤ b.ix ∧ Sh.Plain.get x b.live = none
 room : b.c.beq zc = false → (b.rm : Int) = c.get 3
 okc : b.c.beq zc = false → okc b.c = true
theorem RPl.new (c : Cfg) : RPl c (newB c) [] (fun _ => false) := by
 have hz : ∀ {p : Prop}, zb.c.beq zc = false → p := fun h => absurd (h.symm.trans (Cfg.beq_self zc)) (by decide)
 refine ⟨(Pl.new c).ok, ?_, rfl, ?_, ?_, fun x h => (by cases h), ?_, ?_⟩
 all_goals
  unfold newB
  cases h : YtplapoenhohliaaGreat.okc c
  ·rw [if_neg (by decide)]
   first | rfl | exact hz | (intro p hp; cases hp)
  ·rw [if_pos rfl]
   obtain ⟨h3, h1⟩ := cfg_nums h
   first | rfl | (intro p hp; cases hp) | (intro _; show (((c.get 3).toNat : Nat) : Int) = c.get 3; omega) | (intro _; exact h)
theorem RPl.step {c : Cfg} {b d : Bk} {xs : List Cg} {F F' : Int → Bool} {x : Cg} (h : RPl c b xs F) (hr : Rise b.live) (hj : xs.length < 1000) (ha : applyB b x = (d, 0)) (hF : ∀ z, F' z = (F z || (decide (z = x.k.id) && (decide (x.k.id ≠ 0) && !livesK x.k)))) :
  RPl c d (xs ++ [x]) F' ∧ x.ix = b.ix + 1 ∧ d.ix = b.ix + 1 ∧ (x.k.id ≠ 0 → F x.k.id = false) ∧ b.c.beq zc = false ∧ d.c = b.c ∧ 0 ≤ x.k.id ∧ x.k.id ≤ b.ix + 1 := by
 obtain ⟨h0, hx, hs, ht, rfl⟩ := applyB_ok ha
 have hi := h.ok.ix
 have hl := h.len
 have htop : top = 1073741824 := rfl
 have hrun := runB_snoc ha h.run
 have hxl : ((xs ++ [x]).length : Int) = b.ix + 1 := by rw [List.length_append]; simp; omega
 rw [Bool.or_eq_true, Bool.or_eq_true] at hs
 have call : x.car = 0 → 1 ≤ x.k.id → x.k.id ≤ b.ix + 1 → F x.k.id = false →
   RPl c (withB b x) (xs ++ [x]) F' ∧ x.ix = b.ix + 1 ∧ (withB b x).ix = b.ix + 1 ∧ (x.k.id ≠ 0 → F x.k.id = false) ∧ b.c.beq zc = false ∧ (withB b x).c = b.c ∧ 0 ≤ x.k.id ∧ x.k.id ≤ b.ix + 1 := by
  intro hc i1 i2 hf
  cases hk : livesK x.k
  ·rw [withB_done hc hk] at hrun ⊢
   refine ⟨⟨⟨h.ok.pos, by show 0 ≤ x.ix ∧ x.ix ≤ top; omega⟩, by rw [hxl]; exact hx, hrun, fun p hp => ?_, fun p hp => ?_, fun z hz => ?_, h.room, h.okc⟩, hx, hx, fun _ => hf, h0, rfl, by omega, i2⟩
   ·obtain ⟨a1, a2, a3, a4⟩ := h.keys p (mem_del hp)
    exact ⟨a1, a2, a3, by show p.1 ≤ x.ix; omega⟩
   ·rcases mem_wput hp with rfl | hp
    ·exact hk
    ·exact h.dn p (mem_roomy hp)
   ·rw [hF, Bool.or_eq_true] at hz
    rcases hz with hz | hz
    ·obtain ⟨z1, z2, z3⟩ := h.fin z hz
     refine ⟨z1, by show z ≤ x.ix; omega, ?_⟩
     show Sh.Plain.get z (del x.k.id b.live) = none
     rw [Sh.Plain.get_del]
     split
     ·rfl
     ·exact z3
    ·rw [Bool.and_eq_true] at hz
     have e : z = x.k.id := of_decide_eq_true hz.1
     subst e
     refine ⟨i1, by show x.k.id ≤ x.ix; omega, ?_⟩
     show Sh.Plain.get x.k.id (del x.k.id b.live) = none
     rw [Sh.Plain.get_del, if_pos rfl]
  ·rw [withB_live hc hk] at hrun ⊢
   refine ⟨⟨⟨h.ok.pos, by show 0 ≤ x.ix ∧ x.ix ≤ top; omega⟩, by rw [hxl]; exact hx, hrun, fun p hp => ?_, h.dn, fun z hz => ?_, h.room, h.okc⟩, hx, hx, fun _ => hf, h0, rfl, by omega, i2⟩
   ·rcases mem_wput hp with rfl | hp
    ·exact ⟨rfl, hk, i1, by show x.k.id ≤ x.ix; omega⟩
    ·obtain ⟨a1, a2, a3, a4⟩ := h.keys p hp
     exact ⟨a1, a2, a3, by show p.1 ≤ x.ix; omega⟩
   ·rw [hF, hk, Bool.not_true, Bool.and_false, Bool.and_false, Bool.or_false] at hz
    obtain ⟨z1, z2, z3⟩ := h.fin z hz
    refine ⟨z1, by show z ≤ x.ix; omega, ?_⟩
    show Sh.Plain.get z (Sh.wput b.rm x.k.id x.k b.live) = none
    rw [get_wput_ne hr (fun e => by rw [e, hf] at hz; cases hz)]
    exact z3
 rcases hs with (hs | hs) | hs
 ·obtain ⟨h1, h2, h3⟩ := isPl_k hs
  refine call h1 (by omega) (by omega) ?_
  cases e : F x.k.id
  ·rfl
  ·have := (h.fin _ e).2.1; omega
 ·have hc := isOn_car hs
  unfold isOnB at hs
  cases hg : Sh.Plain.get x.k.id b.live with
  | none => rw [hg] at hs; cases hs
  | some a =>
   obtain ⟨a1, a2, a3, a4⟩ := h.keys _ (Sh.Plain.get_mem hg)
   refine call hc a3 (by show x.k.id ≤ b.ix + 1; exact Int.le_trans a4 (by omega)) ?_
   cases e : F x.k.id
   ·rfl
   ·have := (h.fin _ e).2.2; rw [hg] at this; cases this
 ·have hc := isSet_car hs
  unfold isSetB at hs
  rw [Bool.and_eq_true] at hs
  have hk : x.k = zk := K.beq_iff.1 hs.1
  have hid : x.k.id = 0 := by rw [hk]; rfl
  rw [withB_car (by omega)] at hrun ⊢
  refine ⟨⟨⟨h.ok.pos, by show 0 ≤ x.ix ∧ x.ix ≤ top; omega⟩, by rw [hxl]; exact hx, hrun, fun p hp => ?_, h.dn, fun z hz => ?_, h.room, h.okc⟩, hx, hx, fun e => absurd hid e, h0, rfl, by omega, by omega⟩
  ·obtain ⟨a1, a2, a3, a4⟩ := h.keys p hp
   exact ⟨a1, a2, a3, by show p.1 ≤ x.ix; omega⟩
  ·rw [hF, hid] at hz
   simp at hz
   obtain ⟨z1, z2, z3⟩ := h.fin z hz
   exact ⟨z1, by show z ≤ x.ix; omega, z3⟩
theorem ask_plain {c : Cfg} {x : K} (h : askK c x = true) : plainK x = x := by
 unfold askK at h
 split at h
 ·unfold ask1 at h; simp only [Bool.and_eq_true] at h; have := K.beq_iff.1 h.1.1; rw [this]; rfl
 ·split at h
  ·unfold ask2 at h; simp only [Bool.and_eq_true] at h; have := K.beq_iff.1 h.1.1; rw [this]; rfl
  ·split at h
   ·unfold ask3 at h; simp only [Bool.and_eq_true] at h; have := K.beq_iff.1 h.1.1; rw [this]; rfl
   ·split at h
    ·unfold ask4 at h; simp only [Bool.and_eq_true] at h; have := K.beq_iff.1 h.1.1.1; rw [this]; rfl
    ·cases h
theorem newA_ask {c : Cfg} {x : K} {i n m : Int} (h : (newA c x i n m).2 = 0) : askK c x = true := by
 by_cases h0 : chkK c x = 0
 ·unfold chkK at h0
  split at h0
  ·split at h0
   ·next h => exact h
   ·exact absurd h0 (by decide)
  ·exact absurd h0 (by decide)
 ·rw [newA_no h0] at h; exact absurd h h0
theorem place_apply {b d : Bk} {x : K} {n m : Int} {g : Cg} (h : placeB b x n m = (d, g, 0)) : applyB b g = (d, 0) := by
 have h2 : (placeB b x n m).2.2 = 0 := by rw [h]
 obtain ⟨h3, h4, h5, h6⟩ := placeB_ok h2
 have hn : (newA b.c x (b.ix + 1) n m).2 = 0 := by
  by_cases e : (newA b.c x (b.ix + 1) n m).2 = 0
  ·exact e
  ·have : placeB b x n m = (zb, zg, (newA b.c x (b.ix + 1) n m).2) := if_pos e
   rw [this] at h2; exact absurd h2 e
 obtain ⟨_, e1, _⟩ := newA_k hn
 have hp : plainK x = x := ask_plain (newA_ask hn)
 rw [h6] at h
 injection h with hd hg
 injection hg with hg _
 subst hg
 subst hd
 have hpl : isPlB b ⟨b.ix + 1, { x with id := b.ix + 1, own := n, born := m, st := 1 }, 0, 0⟩ = true := by
  unfold isPlB
  have e2 : plainK ({ x with id := b.ix + 1, own := n, born := m, st := 1 } : K) = x := by
   show plainK x = x
   exact hp
  show ((newA b.c (plainK ({ x with id := b.ix + 1, own := n, born := m, st := 1 } : K)) (b.ix + 1) n m).2 == 0 && _) = true
  rw [e2, hn, e1]
  rw [Bool.and_eq_true]
  exact ⟨by decide, Cg.beq_self _⟩
 rw [applyB_as (nil_of_bad h3) rfl (by rw [hpl]; rfl) (fun e => h5 e.2) h4]
 rw [withB_live rfl (livesK_of (.inl rfl))]
theorem seek_mem {k : Int} {x : K} : ∀ {l : List KV}, seek k l = some x → ∃ p ∈ l, p.2 = x
 | [], h => by simp [seek] at h
 | y :: l, h => by
  unfold seek at h
  by_cases e : y.2.id = k
  ·rw [List.find?_cons_of_pos (by simpa using e)] at h
   exact ⟨y, List.mem_cons_self .., by simpa using h⟩
  ·rw [List.find?_cons_of_neg (by simpa using e)] at h
   obtain ⟨p, hp, h2⟩ := seek_mem (l := l) (k := k) (x := x) h
   exact ⟨p, List.mem_cons_of_mem _ hp, h2⟩
theorem cancel_apply {c : Cfg} {b d : Bk} {xs : List Cg} {F : Int → Bool} {i n : Int} {g : Cg} (hR : RPl c b xs F) (h : cancelB b i n = (d, g, 0)) : applyB b g = (d, 0) := by
 have bad : ∀ {e : Int}, ((zb, zg, e) : Bk × Cg × Int) = (d, g, 0) → e = 0 := fun h => congrArg (fun z => z.2.2) h
 unfold cancelB at h
 split at h
 ·exact absurd (bad h) (by decide)
 ·next h0 =>
  have h0 : b.c.beq zc = false := by simpa using h0
  split at h
  ·exact absurd (bad h) (by decide)
  ·next x hf =>
   split at h
   ·exact absurd (bad h) (by decide)
   ·split at h
    ·next e => exact absurd (bad h) e
    ·next e =>
     have hs : x.st = 1 ∨ x.st = 2 := by
      by_cases hs : x.st = 1 ∨ x.st = 2
      ·exact hs
      ·have : cancelK x = (zk, 7) := if_neg hs
       rw [this] at e; exact absurd (show (7 : Int) ≠ 0 by decide) e
     have hc : cancelK x = ({ x with st := 5 }, 0) := if_pos hs
     rw [hc] at h
     have hg : Sh.Plain.get i b.live = some x := by
      unfold findB at hf
      cases hg : Sh.Plain.get i b.live with
      | some y => rw [hg] at hf; exact hf
      | none =>
       rw [hg] at hf
       obtain ⟨p, hp, rfl⟩ := seek_mem hf
       have := hR.dn p hp
       rw [livesK_of (by rcases hs with h | h <;> simp [h])] at this
       cases this
     obtain ⟨a1, a2, a3, a4⟩ := hR.keys _ (Sh.Plain.get_mem hg)
     have a1 : i = x.id := a1
     have h2 : (changedB b ⟨0, { x with st := 5 }, 0, 0⟩).2.2 = 0 := by rw [h]
     obtain ⟨h4, h6⟩ := changedB_ok h2
     rw [h6] at h
     injection h with hd hg'
     injection hg' with hg' _
     subst hg'
     subst hd
     have hon : isOnB b ⟨b.ix + 1, { x with st := 5 }, 0, 0⟩ = true := by
      unfold isOnB
      show (match Sh.Plain.get x.id b.live with | none => false | some a => _) = true
      rw [show Sh.Plain.get x.id b.live = some x by rw [← a1]; exact hg]
      show (Cg.beq _ _ && mayK b.c x { x with st := 5 }) = true
      rw [Bool.and_eq_true]
      refine ⟨Cg.beq_self _, may_hit (hR.okc h0) (j := 5) (by decide) ?_⟩
      unfold hit
      have e5 : stepK b.c x { x with st := 5 } 5 = cancelK x := rfl
      rw [e5, hc, Bool.and_eq_true]
      exact ⟨decide_eq_true rfl, K.beq_self _⟩
     have hnp : isPlB b ⟨b.ix + 1, { x with st := 5 }, 0, 0⟩ = false := by
      cases e : isPlB b ⟨b.ix + 1, { x with st := 5 }, 0, 0⟩
      ·rfl
      ·exact absurd (isPl_k e).2.1 (show ¬ (5 : Int) = 1 by decide)
     exact applyB_as h0 rfl (by rw [hon]; simp) (fun e => by rw [hnp] at e; exact absurd e.1 (by decide)) h4
theorem set_apply {b d : Bk} {n m : Int} {g : Cg} (h : setB b n m = (d, g, 0)) : applyB b g = (d, 0) := by
 have bad : ∀ {e : Int}, ((zb, zg, e) : Bk × Cg × Int) = (d, g, 0) → e = 0 := fun h => congrArg (fun z => z.2.2) h
 unfold setB at h
 split at h
 ·exact absurd (bad h) (by decide)
 ·next h0 =>
  have h0 : b.c.beq zc = false := by simpa using h0
  split at h
  ·exact absurd (bad h) (by decide)
  ·next hh =>
   have hh : haveB b n m = true := by simpa using hh
   have h2 : (changedB b ⟨0, zk, n, m⟩).2.2 = 0 := by rw [h]
   obtain ⟨h4, h6⟩ := changedB_ok h2
   rw [h6] at h
   injection h with hd hg'
   injection hg' with hg' _
   subst hg'
   subst hd
   have hst : isSetB b ⟨b.ix + 1, zk, n, m⟩ = true := by
    unfold isSetB
    rw [Bool.and_eq_true]
    exact ⟨K.beq_self _, hh⟩
   have hnp : isPlB b ⟨b.ix + 1, zk, n, m⟩ = false := by
    cases e : isPlB b ⟨b.ix + 1, zk, n, m⟩
    ·rfl
    ·have h1 : n = 0 := (isPl_k e).1
     have := haveB_car hh
     omega
   exact applyB_as h0 rfl (by rw [hst]; simp) (fun e => by rw [hnp] at e; exact absurd e.1 (by decide)) h4
end Go.Proofs.YtplapoenhohliaaGreat
