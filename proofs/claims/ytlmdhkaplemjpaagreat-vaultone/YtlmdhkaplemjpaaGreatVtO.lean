/- Rows of snaps; a deed in a block; what VaultOne keeps. -/
import Derived.Test.YtlmdhkaplemjpaaGreatVtL
import Derived.Great.BuildSlice
namespace Go.Proofs.YtlmdhkaplemjpaaGreat
open Go.RowKit Go.Lib
open Sh.Plain (KV Rise)
set_option linter.unusedVariables false
set_option linter.unusedSimpArgs false

def eS : Sh.El Sp := ⟨77, 44, 51, 408, .agg zs.cells, fun s => s.list, fun s => s.len, fun s => s.oneL, by decide, Tryz.underlying77, Sh.info_of (by kernel_rfl), rfl, by decide⟩
namespace Sh
theorem OwO.set {α : Type} {E : El α} {w : World} {B : Nat} {v : Value} {xs : List α} {g off cap : Nat} (h : OwO E w B v xs) (hv : v = .slice (some ⟨g, off, none⟩) xs.length cap) {k : Nat} (hk : k < xs.length) (x : α) :
    OwO E (w.setCells g (off + k * E.s) (E.enc x)) B v (xs.set k x) ∧ Chg w (w.setCells g (off + k * E.s) (E.enc x)) (fun j => j = g) ∧ w.there g (off + k * E.s) E.s := by
  rcases h with ⟨rfl, _⟩ | ⟨g', off', cap', cur, hv', hb, ha, hc, hm, hsz, hx⟩
  · cases hv
  · rw [hv] at hv'
    injection hv' with e1 e2 e3
    injection e1 with e1
    injection e1 with e1 e4
    subst e1; subst e4; subst e3
    have hmul : k * E.s + E.s ≤ cap * E.s := by
      have := Nat.mul_le_mul_right E.s (show k + 1 ≤ cap by omega)
      rwa [Nat.add_mul, Nat.one_mul] at this
    have hlen : (E.enc x).length = E.s := E.len x
    have hpre : (cur.toList.take (off + k * E.s)).length = off + k * E.s := by simp only [List.length_take, Array.length_toList]; omega
    have hmid : ((cur.toList.drop (off + k * E.s)).take E.s).length = E.s := by simp only [List.length_take, List.length_drop, Array.length_toList]; omega
    have ha2 : At w g E.e (cur.toList.take (off + k * E.s) ++ ((cur.toList.drop (off + k * E.s)).take E.s ++ (cur.toList.drop (off + k * E.s)).drop E.s)).toArray := by
      rw [List.take_append_drop, List.take_append_drop]; exact ha
    have h3 := At.setCells (vs := E.enc x) (by rw [hmid, hlen]) ha2
    rw [hpre] at h3
    refine ⟨.inr ⟨g, off, cap, _, by rw [hv, List.length_set], hb, h3, by rw [List.length_set]; exact hc, hm, ?_, ?_⟩, chg_setCells w g _ _ w, there_at ha (by omega)⟩
    · simp only [List.size_toArray, List.length_append, hpre, hlen, List.length_drop, Array.length_toList]; omega
    · intro i y hy j u hu
      have hj : j < E.s := by rw [← E.len y]; exact (List.getElem?_eq_some_iff.1 hu).1
      rw [List.getElem?_set] at hy
      rw [List.getElem?_toArray]
      by_cases hik : k = i
      · subst hik
        rw [if_pos rfl, if_pos hk] at hy
        have : x = y := Option.some.inj hy
        subst this
        rw [List.getElem?_append_right (by omega), hpre, show off + k * E.s + j - (off + k * E.s) = j by omega, List.getElem?_append_left (by omega)]
        exact hu
      · rw [if_neg hik] at hy
        have hold := hx i y hy j u hu
        rcases Nat.lt_or_ge i k with hlt | hge
        · have h5 : i * E.s + E.s ≤ k * E.s := by
            have := Nat.mul_le_mul_right E.s (show i + 1 ≤ k by omega)
            rwa [Nat.add_mul, Nat.one_mul] at this
          rw [List.getElem?_append_left (by omega), List.getElem?_take, if_pos (by omega)]
          simpa using hold
        · have h5 : k * E.s + E.s ≤ i * E.s := by
            have := Nat.mul_le_mul_right E.s (show k + 1 ≤ i by omega)
            rwa [Nat.add_mul, Nat.one_mul] at this
          rw [List.getElem?_append_right (by omega), hpre, List.getElem?_append_right (by omega), hlen, List.drop_drop, List.getElem?_drop, show off + k * E.s + E.s + (off + i * E.s + j - (off + k * E.s) - E.s) = off + i * E.s + j by omega]
          simpa using hold
theorem OwO.at_ {α : Type} {E : El α} {w : World} {B : Nat} {v : Value} {xs : List α} (h : OwO E w B v xs) {k : Nat} {x : α} (hx : xs[k]? = some x) : ∃ g off cap, v = .slice (some ⟨g, off, none⟩) xs.length cap ∧ g < w.heap.size ∧ w.rangeAt g (off + k * E.s) (E.enc x) := by
  rcases h with ⟨_, rfl⟩ | ⟨g, off, cap, cur, rfl, hb, ha, hc, hm, hsz, h⟩
  · simp at hx
  · exact ⟨g, off, cap, rfl, ha.lt, fun j u hu => by rw [At.cell ha]; exact h k x hx j u hu⟩
theorem OwO.lit0 {α : Type} (E : El α) (w : World) {B : Nat} (hB : B ≤ w.heap.size) : OwO E (w.alloc (.cells #[] E.e)) B (.slice (some ⟨w.heap.size, 0, none⟩) 0 0) [] := (Own.lit0 E w hB).owO
end Sh
section
variable {c : Cfg} {w W W' : World} {g : Nat} {x : Vt} {hs xs : List Cg}
theorem VS.other (h : VS c w W g x hs xs) {S : Nat → Prop} (hc : Chg W W' S) (h1 : ∀ k, S k → w.heap.size ≤ k) (h2 : ¬ S g) (h3 : ∀ k, x.v.ownBlock = some k → ¬ S k) (h4 : Sh.Off W S) : VS c w W' g x hs xs :=
  ⟨h.bel.trans (hc.toBelow h.bel.size (fun k hk e => by have := h1 k e; omega)), At.chg h.vt hc h2, h.at_.chg hc h4, h.ow.chg hc h3, h.lo, h.made, h.lg⟩
theorem VS.one (h : VS c w W g x hs xs) {q : Nat} {t : TypeId} {cs : Array Value} (hc : Chg W W' (fun k => k = q)) (ha : At W q t cs) (hq : w.heap.size ≤ q) (t1 : t ≠ 87) (t2 : t ≠ 48) (t3 : t ≠ 143) (t4 : t ≠ 124) : VS c w W' g x hs xs :=
  h.other hc (fun k e => by subst e; exact hq) (fun e => by subst e; exact At.ne ha h.vt t1 rfl) (fun k hk e => h.ow.ty ha (Ne.symm t2) (e ▸ hk)) (Off.one ha t3 t4)
end
/-- a row of snaps' block -/
theorem snap_off {w : World} {B : Nat} {rv : Value} {ss : List Sp} (h : Sh.OwO eS w B rv ss) : Sh.Off w (fun k => rv.ownBlock = some k) := fun k hk ds => ⟨fun h' => h.ty h' (show eS.e ≠ _ from by decide) hk, fun h' => h.ty h' (show eS.e ≠ _ from by decide) hk⟩
/-- a snap that was read of the vault as it was once -/
def Old (c : Cfg) (hs : List Cg) (W : World) (s : Sp) : Prop := BAt W s.b s.o s.p ∧ ∃ j, j ≤ hs.length ∧ Mk c s.b (hs.take j)
theorem Old.now {c : Cfg} {w W : World} {g : Nat} {x : Vt} {hs xs : List Cg} (h : VS c w W g x hs xs) : Old c hs W x.s := ⟨h.at_, hs.length, Nat.le_refl _, by rw [List.take_length]; exact h.made⟩
theorem Old.more {c : Cfg} {hs : List Cg} {W : World} {s : Sp} (h : Old c hs W s) (y : Cg) : Old c (hs ++ [y]) W s := by
  obtain ⟨h1, j, hj, h2⟩ := h
  exact ⟨h1, j, by rw [List.length_append]; omega, by rw [List.take_append_of_le_length hj]; exact h2⟩
/-- who read at the index of now read what is so still -/
theorem Old.same {c : Cfg} {hs : List Cg} {W : World} {s : Sp} {b : Bk} (h : Old c hs W s) (hb : Mk c b hs) (hi : s.b.ix = b.ix) : s.b = b := by
  obtain ⟨_, j, hj, h2⟩ := h
  have h3 := h2.len
  have h4 := hb.len
  rw [List.length_take] at h3
  have : j = hs.length := by omega
  subst this
  rw [List.take_length] at h2
  exact h2.eq hb
theorem Old.ok {c : Cfg} {hs : List Cg} {W : World} {s : Sp} (h : Old c hs W s) : s.b.Ok := by obtain ⟨_, j, _, h2⟩ := h; exact h2.ok
/-- what VaultOne keeps: the vault, the snaps, its own book -/
structure OS (c : Cfg) (w W : World) (g : Nat) (x : Vt) (hs : List Cg) (rv : Value) (ss : List Sp) (q : Nat) (o p : Option Addr) : Prop where
  vs : VS c w W g x hs hs
  row : Sh.OwO eS W w.heap.size rv ss
  old : ∀ s ∈ ss, Old c hs W s
  bk : BkAt W q x.s.b o p
  ba : BAt W x.s.b o p
  lo : w.heap.size ≤ q
section
variable {c : Cfg} {w W W' : World} {g : Nat} {x : Vt} {hs : List Cg} {rv : Value} {ss : List Sp} {q : Nat} {o p : Option Addr}
theorem Old.step {s : Sp} (h : Old c hs W s) (hb : Below W.heap.size W W') : Old c hs W' s := ⟨h.1.step hb, h.2⟩
theorem Old.chg {s : Sp} {S : Nat → Prop} (h : Old c hs W s) (hc : Chg W W' S) (hS : Sh.Off W S) : Old c hs W' s := ⟨h.1.chg hc hS, h.2⟩
theorem OS.step (h : OS c w W g x hs rv ss q o p) (hb : Below W.heap.size W W') : OS c w W' g x hs rv ss q o p := ⟨h.vs.step hb, h.row.below hb, fun s m => (h.old s m).step hb, h.bk.step hb, h.ba.step hb, h.lo⟩
/-- snaps[k] = v.Read() -/
theorem OS.reads (h : OS c w W g x hs rv ss q o p) {gr off cap : Nat} (hv : rv = .slice (some ⟨gr, off, none⟩) ss.length cap) {k : Nat} (hk : k < ss.length) : OS c w (W.setCells gr (off + k * 51) x.s.list) g x hs rv (ss.set k x.s) q o p ∧ W.there gr (off + k * 51) 51 := by
  obtain ⟨h1, h2, h3⟩ := h.row.set hv hk x.s
  have hown : rv.ownBlock = some gr := by rw [hv]; rfl
  have hoff : Sh.Off W (fun j => j = gr) := fun j e ds => by subst e; exact snap_off h.row j hown ds
  have hne : ∀ {t : TypeId} {cs : Array Value} {j : Nat}, At W j t cs → t ≠ 44 → ¬ j = gr := fun ha ht e => by subst e; exact h.row.ty ha (Ne.symm ht) hown
  refine ⟨⟨h.vs.other h2 (fun j e => by subst e; exact (h.row.lt hown).1) (hne h.vs.vt (by decide)) (fun j hj e => by
    subst e
    rcases h.vs.ow with ⟨e1, _⟩ | ⟨g1, o1, c1, cur, e1, _, ha, _⟩
    · rw [e1] at hj; cases hj
    · rw [e1] at hj
      have : g1 = j := by simpa [Value.ownBlock] using hj
      subst this
      exact hne ha (show eG.e ≠ _ from by decide) rfl) hoff, h1, fun s m => ?_, At.chg h.bk h2 (hne h.bk (by decide)), h.ba.chg h2 hoff, h.lo⟩, h3⟩
  rcases List.mem_or_eq_of_mem_set m with m | rfl
  · exact (h.old s m).chg h2 hoff
  · exact (Old.now h.vs).chg h2 hoff
/-- what a Commit leaves of all else -/
theorem OS.com (h : OS c w W g x hs rv ss q o p) (hc : VC x g W W') : Sh.OwO eS W' w.heap.size rv ss ∧ (∀ s ∈ ss, Old c hs W' s) ∧ BkAt W' q x.s.b o p ∧ BAt W' x.s.b o p :=
  ⟨h.row.chg hc (fun k hk e => by
    rcases e with rfl | e
    · exact h.row.ty h.vs.vt (show eS.e ≠ _ from by decide) hk
    · rcases h.vs.ow with ⟨e1, _⟩ | ⟨g1, o1, c1, cur, e1, _, ha, _⟩
      · rw [e1] at e; cases e
      · rw [e1] at e
        have : g1 = k := by simpa [Value.ownBlock] using e
        subst this
        exact h.row.ty ha (show eS.e ≠ eG.e from by decide) hk), fun s m => (h.old s m).chg hc h.vs.off, h.vs.far hc h.bk (by decide) (by decide), h.vs.farB hc h.ba⟩
/-- b = d -/
theorem OS.put {x' : Vt} {hs' : List Cg} (hv : VS c w W g x' hs' hs') (hr : Sh.OwO eS W w.heap.size rv ss) (ho : ∀ s ∈ ss, Old c hs' W s) {b : Bk} (hk : BkAt W q b o p) (hl : w.heap.size ≤ q) {o' p' : Option Addr} (hd : BAt W x'.s.b o' p') : OS c w (W.setRow q (x'.s.b.cells o' p')) g x' hs' rv ss q o' p' := by
  have hc : Chg W (W.setRow q (x'.s.b.cells o' p')) (fun j => j = q) := by
    refine ⟨rfl, rfl, rfl, by simp [World.setRow], fun k hk1 hn => ?_⟩
    simp only [World.setRow, Array.getElem?_modify]
    rw [if_neg (fun e => hn e.symm)]
  have hoff : Sh.Off W (fun j => j = q) := Off.one hk (by decide) (by decide)
  exact ⟨hv.one hc hk hl (by decide) (by decide) (by decide) (by decide), hr.chg hc (fun k hk1 e => by subst e; exact hr.ty hk (show eS.e ≠ _ from by decide) hk1), fun s m => (ho s m).chg hc hoff, At.setRow hk _, hd.chg hc hoff, hl⟩
end
/-- a deed in a block of its own -/
abbrev DdAt (w : World) (g : Nat) (y : Dd) : Prop := At w g 58 y.cells
theorem size58 (y : Dd) : (Tryz.prog.info? 58).map (·.size) = some y.cells.size := by kernel_rfl
theorem size58l (y : Dd) : (Tryz.prog.info? 58).map (·.size) = some y.cells.toList.length := by kernel_rfl
theorem Dd.one (y : Dd) : y.cells.all (·.oneCell') = true := by simp [Dd.cells, Value.oneCell']
theorem DdAt.k0 {w : World} {g : Nat} {y : Dd} (h : DdAt w g y) : w.cell? ⟨g, 0, none⟩ = some (.int .i64 y.kind) := by rw [At.cell h]; rfl
theorem DdAt.k1 {w : World} {g : Nat} {y : Dd} (h : DdAt w g y) : w.cell? ⟨g, 1, none⟩ = some (.int .i64 y.who) := by rw [At.cell h]; rfl
theorem DdAt.k10 {w : World} {g : Nat} {y : Dd} (h : DdAt w g y) : w.cell? ⟨g, 10, none⟩ = some (.int .i64 y.n) := by rw [At.cell h]; rfl
theorem DdAt.x {w : World} {g : Nat} {y : Dd} (h : DdAt w g y) : w.rangeAt g 2 y.x.cells.toList := fun j u hu => by
  rw [At.cell h]
  have hu' : y.x.cells[j]? = some u := by simpa using hu
  have hj : j < 8 := (Array.getElem?_eq_some_iff.1 hu').1
  match j, hj with
  | 0, _ => exact hu'
  | 1, _ => exact hu'
  | 2, _ => exact hu'
  | 3, _ => exact hu'
  | 4, _ => exact hu'
  | 5, _ => exact hu'
  | 6, _ => exact hu'
  | 7, _ => exact hu'
section
variable {ops : Array Oper} {rest : List Oper} {o : Oper} {a : Act} {w : World} {Q : Exit → Act → World → Prop}
theorem wpList_load_dd (x : Tmp) (ho : o.op = .load 58 (.tmp x)) (hgd : Region.wanted o (yielded ops a.tmps) = true) {g off : Nat} {y : Dd} (e : a.eval (.tmp x) = ptr g off) (h : w.rangeAt g off y.cells.toList)
    (k : wpList Tryz.prog ops Q rest (a.put o.dst y.V) w) : wpList Tryz.prog ops Q (o :: rest) a w := by
  obtain ⟨dd, op, t, pos, af, gd⟩ := o
  subst ho
  refine wpList_run hgd _ ?_ k
  unfold execOp
  simp only [e, Instr.loadAt, Instr.sureAddr, Sem.run_bind, Sem.run_pure, Result.andThen_ok, run_loadVar_mid (P := Tryz.prog) w g off 58 _ _ h Tryz.underlying58 rfl (size58l y), Array.toArray_toList]
theorem wpList_store_ddnew (x y : Tmp) (ho : o.op = .store 58 (.tmp x) (.tmp y)) (hgd : o.guard = none) {c : Dd} (e1 : a.eval (.tmp x) = ptr w.heap.size 0) (e2 : a.eval (.tmp y) = c.V)
    (k : wpList Tryz.prog ops Q rest (a.put o.dst undef) (w.alloc (.cells c.cells 58))) : wpList Tryz.prog ops Q (o :: rest) a (w.alloc (.cells Z11 58)) := by
  refine wpList_store_row hgd 58 (.tmp x) (.tmp y) ho w.heap.size c.cells e1 e2 58 Z11 (At.new w 58 Z11) (size58 c) rfl c.one ?_
  rw [World.setRow_alloc_new]
  exact k
theorem wpList_store_spm (x y : Tmp) (ho : o.op = .store 44 (.tmp x) (.tmp y)) (hgd : o.guard = none) {g off : Nat} {s : Sp} (ht : w.there g off 51) (e1 : a.eval (.tmp x) = ptr g off) (e2 : a.eval (.tmp y) = s.V)
    (k : wpList Tryz.prog ops Q rest (a.put o.dst undef) (w.setCells g off s.list)) : wpList Tryz.prog ops Q (o :: rest) a w := by
  have h := wpList_store_mid (P := Tryz.prog) (ops := ops) (rest := rest) (op := o) (a := a) (w := w) (Q := Q) hgd 44 (.tmp x) (.tmp y) ho g off s.cells e1 e2 (by rw [s.size]; exact ht) (size44 s) s.one
  refine h ?_
  simpa [Sp.cells] using k
theorem wpList_slice_sp (y : Tmp) (ho : o.op = .buildSlice 77 1 #[(0, .tmp y)]) (hgd : o.guard = none) {c : Sp} (e : a.eval (.tmp y) = c.V)
    (k : wpList Tryz.prog ops Q rest (a.put o.dst (.slice (some ⟨w.heap.size, 0, none⟩) 1 1)) (w.alloc (.cells c.cells 44))) : wpList Tryz.prog ops Q (o :: rest) a w := by
  obtain ⟨ie, hie, hz, hsz, _⟩ := Sh.info_of (e := 44) (z := .agg Z51) (s := 51) (b := 408) (by kernel_rfl)
  refine wpList_buildSlice hgd 77 44 1 _ ho c.cells ie (.agg Z51) Tryz.underlying77 hie hz (by rw [hsz]; decide) (by rw [hsz]; decide) ?_ k
  rw [hsz]
  simp only [List.map_toArray, List.map_cons, List.map_nil, e]
  clear e k hie hz hsz ho hgd
  obtain ⟨⟨⟨n, s, hl⟩, ix, lv, dn, rm, m, ml⟩, o, p, ⟨⟨cs⟩, sz, one⟩, t⟩ := c
  have sz' : cs.length = 21 := sz
  match n, hl, m, ml, cs, sz' with
  | [a0, a1, a2, a3, a4, a5, a6, a7, a8, a9, a10, a11, a12, a13, a14, a15, a16], _, [m0, m1, m2, m3], _, [k0, k1, k2, k3, k4, k5, k6, k7, k8, k9, k10, k11, k12, k13, k14, k15, k16, k17, k18, k19, k20], _ => show _ = _; kernel_rfl
end
end Go.Proofs.YtlmdhkaplemjpaaGreat
/- VaultOne: a round's blocks. -/
namespace Go.Proofs.YtlmdhkaplemjpaaGreat
open Go.RowKit Go.Lib
set_option linter.unusedVariables false
set_option linter.unusedSimpArgs false

theorem chg_row (W : World) (q : Nat) (cs : Array Value) : Chg W (W.setRow q cs) (fun j => j = q) := by
  refine ⟨rfl, rfl, rfl, by simp [World.setRow], fun k hk1 hn => ?_⟩
  simp only [World.setRow, Array.getElem?_modify]
  rw [if_neg (fun e => hn e.symm)]
section
variable {c : Cfg} {w W W' : World} {g : Nat} {x x' : Vt} {hs hs' : List Cg} {rv : Value} {ss : List Sp} {q : Nat} {o p : Option Addr} {g10 q12 q13 q14 : Nat} {y : Dd} {s : Sp} {d b : Bk} {o' p' : Option Addr} {ch : Cg}
theorem OS.other (h : OS c w W g x hs rv ss q o p) {S : Nat → Prop} (hc : Chg W W' S) (h1 : ∀ k, S k → w.heap.size ≤ k) (h2 : ¬ S g) (h3 : ∀ k, x.v.ownBlock = some k → ¬ S k) (h4 : Sh.Off W S) (h5 : ∀ k, rv.ownBlock = some k → ¬ S k) (h6 : ¬ S q) : OS c w W' g x hs rv ss q o p :=
  ⟨h.vs.other hc h1 h2 h3 h4, h.row.chg hc h5, fun s m => (h.old s m).chg hc h4, At.chg h.bk hc h6, h.ba.chg hc h4, h.lo⟩
/-- a round: the deed, the snap, what it would come to -/
structure IS (c : Cfg) (w W : World) (g : Nat) (x : Vt) (hs : List Cg) (rv : Value) (ss : List Sp) (q : Nat) (o p : Option Addr) (g10 q12 q13 q14 : Nat) (y : Dd) (s : Sp) (d : Bk) (o' p' : Option Addr) (ch : Cg) : Prop where
  os : OS c w W g x hs rv ss q o p
  dd : DdAt W g10 y
  sp : SpAt W q12 s
  bk : BkAt W q13 d o' p'
  bd : BAt W d o' p'
  cg : CgAt W q14 ch
  ne : x.v.ownBlock ≠ some q14
  n13 : q ≠ q13
  lo3 : w.heap.size ≤ q13
  lo4 : w.heap.size ≤ q14
theorem IS.step (h : IS c w W g x hs rv ss q o p g10 q12 q13 q14 y s d o' p' ch) (hb : Below W.heap.size W W') : IS c w W' g x hs rv ss q o p g10 q12 q13 q14 y s d o' p' ch :=
  ⟨h.os.step hb, h.dd.step hb, h.sp.step hb, h.bk.step hb, h.bd.step hb, h.cg.step hb, h.ne, h.n13, h.lo3, h.lo4⟩
theorem IS.new (h : OS c w W g x hs rv ss q o p) (hd : DdAt W g10 y) (hp : SpAt W q12 s) (hb : Below W.heap.size W W') {W2 : World} (hb2 : Below W'.heap.size W' W2) (h3 : BkAt W2 W'.heap.size d o' p') (h4 : CgAt W2 (W'.heap.size + 1) ch) (ha : BAt W2 d o' p') : IS c w W2 g x hs rv ss q o p g10 q12 W'.heap.size (W'.heap.size + 1) y s d o' p' ch := by
  have hbb := hb.trans (hb2.mono hb.size)
  have hw := Nat.le_trans h.vs.bel.size hb.size
  exact ⟨h.step hbb, hd.step hbb, hp.step hbb, h3, ha, h4, fun e => by have := (h.vs.ow.lt e).2; have := hb.size; omega, by have := h.bk.lt; have := hb.size; omega, hw, by omega⟩
theorem IS.put (h : IS c w W g x hs rv ss q o p g10 q12 q13 q14 y s d o' p' ch) {d2 : Bk} {o2 p2 : Option Addr} (hd : BAt W d2 o2 p2) (ch2 : Cg) : IS c w ((W.setRow q13 (d2.cells o2 p2)).setRow q14 ch2.cells) g x hs rv ss q o p g10 q12 q13 q14 y s d2 o2 p2 ch2 := by
  have c1 := chg_row W q13 (d2.cells o2 p2)
  have f1 : Sh.Off W (fun j => j = q13) := Off.one h.bk (by decide) (by decide)
  have n134 : q13 ≠ q14 := At.ne h.bk h.cg (by decide)
  have o1 : OS c w (W.setRow q13 (d2.cells o2 p2)) g x hs rv ss q o p := h.os.other c1 (fun k e => by subst e; exact h.lo3) (fun e => At.ne h.bk h.os.vs.vt (by decide) e.symm) (fun k hk e => by subst e; exact h.os.vs.ow.ty h.bk (show eG.e ≠ _ from by decide) hk) f1 (fun k hk e => by subst e; exact h.os.row.ty h.bk (show eS.e ≠ _ from by decide) hk) h.n13
  have g1 : CgAt (W.setRow q13 (d2.cells o2 p2)) q14 ch := At.chg h.cg c1 (Ne.symm n134)
  have b1 : BkAt (W.setRow q13 (d2.cells o2 p2)) q13 d2 o2 p2 := At.setRow h.bk _
  have a1 : BAt (W.setRow q13 (d2.cells o2 p2)) d2 o2 p2 := hd.chg c1 f1
  have dd1 : DdAt (W.setRow q13 (d2.cells o2 p2)) g10 y := At.chg h.dd c1 (fun e => At.ne h.dd h.bk (by decide) e)
  have sp1 : SpAt (W.setRow q13 (d2.cells o2 p2)) q12 s := At.chg h.sp c1 (fun e => At.ne h.sp h.bk (by decide) e)
  have c2 := chg_row (W.setRow q13 (d2.cells o2 p2)) q14 ch2.cells
  have f2 : Sh.Off (W.setRow q13 (d2.cells o2 p2)) (fun j => j = q14) := Off.one g1 (by decide) (by decide)
  refine ⟨o1.other c2 (fun k e => by subst e; exact h.lo4) (fun e => At.ne g1 o1.vs.vt (by decide) e.symm) (fun k hk e => by subst e; exact h.ne hk) f2 (fun k hk e => by subst e; exact o1.row.ty g1 (show eS.e ≠ _ from by decide) hk) (fun e => At.ne o1.bk g1 (by decide) e), At.chg dd1 c2 (fun e => At.ne dd1 g1 (by decide) e), At.chg sp1 c2 (fun e => At.ne sp1 g1 (by decide) e), At.chg b1 c2 n134, a1.chg c2 f2, At.setRow g1 _, h.ne, h.n13, h.lo3, h.lo4⟩
/-- a round behind its Commit -/
structure CS2 (c : Cfg) (w W : World) (g : Nat) (x : Vt) (hs : List Cg) (rv : Value) (ss : List Sp) (q : Nat) (b : Bk) (o p : Option Addr) (q12 q14 : Nat) (s : Sp) (ch : Cg) : Prop where
  vs : VS c w W g x hs hs
  row : Sh.OwO eS W w.heap.size rv ss
  old : ∀ s ∈ ss, Old c hs W s
  bk : BkAt W q b o p
  ba : BAt W b o p
  lo : w.heap.size ≤ q
  sp : SpAt W q12 s
  cg : CgAt W q14 ch
theorem CS2.step (h : CS2 c w W g x hs rv ss q b o p q12 q14 s ch) (hb : Below W.heap.size W W') : CS2 c w W' g x hs rv ss q b o p q12 q14 s ch :=
  ⟨h.vs.step hb, h.row.below hb, fun s m => (h.old s m).step hb, h.bk.step hb, h.ba.step hb, h.lo, h.sp.step hb, h.cg.step hb⟩
theorem CS2.new (h : IS c w W g x hs rv ss q o p g10 q12 q13 q14 y s d o' p' ch) (hc : VC x g W W') (hv : VS c w W' g x' hs' hs') (hh : hs' = hs ∨ ∃ z, hs' = hs ++ [z]) : CS2 c w W' g x' hs' rv ss q x.s.b o p q12 q14 s ch := by
  obtain ⟨h1, h2, h3, h4⟩ := h.os.com hc
  refine ⟨hv, h1, fun s m => ?_, h3, h4, h.os.lo, h.os.vs.far hc h.sp (by decide) (by decide), h.os.vs.farC hc h.cg h.ne⟩
  rcases hh with rfl | ⟨z, rfl⟩
  · exact h2 s m
  · exact (h2 s m).more z
theorem CS2.os (h : CS2 c w W g x hs rv ss q b o p q12 q14 s ch) (hb : b = x.s.b) : OS c w W g x hs rv ss q o p := by
  subst hb
  exact ⟨h.vs, h.row, h.old, h.bk, h.ba, h.lo⟩
theorem CS2.put (h : CS2 c w W g x hs rv ss q b o p q12 q14 s ch) {o2 p2 : Option Addr} (hd : BAt W x.s.b o2 p2) : OS c w (W.setRow q (x.s.b.cells o2 p2)) g x hs rv ss q o2 p2 := OS.put h.vs h.row h.old h.bk h.lo hd
end
section
variable {ops : Array Oper} {rest : List Oper} {o : Oper} {a : Act} {w : World} {Q : Exit → Act → World → Prop}
theorem wpList_store_bknew (x y : Tmp) (ho : o.op = .store 37 (.tmp x) (.tmp y)) (hgd : o.guard = none) {b : Bk} {s t : Option Addr} (e1 : a.eval (.tmp x) = ptr w.heap.size 0) (e2 : a.eval (.tmp y) = b.V s t)
    (k : wpList Tryz.prog ops Q rest (a.put o.dst undef) (w.alloc (.cells (b.cells s t) 37))) : wpList Tryz.prog ops Q (o :: rest) a (w.alloc (.cells Z29 37)) := by
  refine wpList_store_row hgd 37 (.tmp x) (.tmp y) ho w.heap.size (b.cells s t) e1 e2 37 Z29 (At.new w 37 Z29) (size32 b s t) (by rw [b.size]; rfl) (b.one s t) ?_
  rw [World.setRow_alloc_new]
  exact k
theorem wpList_store_cgnew (x y : Tmp) (ho : o.op = .store 48 (.tmp x) (.tmp y)) (hgd : o.guard = none) {c : Cg} (e1 : a.eval (.tmp x) = ptr w.heap.size 0) (e2 : a.eval (.tmp y) = c.V)
    (k : wpList Tryz.prog ops Q rest (a.put o.dst undef) (w.alloc (.cells c.cells 48))) : wpList Tryz.prog ops Q (o :: rest) a (w.alloc (.cells Z11 48)) := by
  refine wpList_store_row hgd 48 (.tmp x) (.tmp y) ho w.heap.size c.cells e1 e2 48 Z11 (At.new w 48 Z11) (size39 c) rfl c.one ?_
  rw [World.setRow_alloc_new]
  exact k
end
/-- who, of eight -/
theorem who_num (k : Int) : ∃ N : Nat, wrap64 ((IntKind.u64.wrap k).tmod 8) = (N : Int) ∧ N < 8 := by
  have h0 : 0 ≤ IntKind.u64.wrap k := by rw [IntKind.wrap_u64]; omega
  have h1 : (IntKind.u64.wrap k).tmod 8 = IntKind.u64.wrap k % 8 := Int.tmod_eq_emod_of_nonneg h0
  have h2 : 0 ≤ IntKind.u64.wrap k % 8 ∧ IntKind.u64.wrap k % 8 < 8 := ⟨Int.emod_nonneg _ (by decide), Int.emod_lt_of_pos _ (by decide)⟩
  refine ⟨(IntKind.u64.wrap k % 8).toNat, ?_, by omega⟩
  rw [h1, IntWalk.wrap64_in _ (by omega)]
  omega
end Go.Proofs.YtlmdhkaplemjpaaGreat
