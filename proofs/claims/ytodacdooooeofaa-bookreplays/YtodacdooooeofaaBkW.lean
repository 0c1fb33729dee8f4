/- The states of BookReplays' walk. -/
import Derived.Test.YtodacdooooeofaaBkS
namespace Go.Proofs.Ytodacdooooeofaa
open Go.RowKit Go.Lib
open Sh.Plain (KV put del Rise)
set_option linter.unusedVariables false
set_option linter.unusedSimpArgs false

theorem EAt.mono {w : World} {b n m : Nat} {F : Int → Bool} (h : EAt w b n F) (hn : n ≤ m) : EAt w b m F := by
  obtain ⟨D, h1, h2⟩ := h
  exact ⟨D, h1.mono hn, h2⟩
/-- the book, the changes that made it, who ended -/
structure RS (w wx : World) (g q mb : Nat) (c : Cfg) (b : Bk) (o p : Option Addr) (rv : Value) (xs : List Cg) (F : Int → Bool) : Prop where
  bel : Below w.heap.size w wx
  cat : CAt wx g c
  bk : BkAt wx q b o p
  at_ : BAt wx b o p
  row : Sh.Own eG wx w.heap.size rv xs
  map : EAt wx mb xs.length F
  lo : w.heap.size ≤ q ∧ w.heap.size ≤ mb
theorem RS.step {w W W' : World} {g q mb : Nat} {c : Cfg} {b : Bk} {o p : Option Addr} {rv : Value} {xs : List Cg} {F : Int → Bool} (h : RS w W g q mb c b o p rv xs F) (hb : Below W.heap.size W W') : RS w W' g q mb c b o p rv xs F :=
  ⟨h.bel.trans (hb.mono h.bel.size), h.cat.step hb, h.bk.step hb, h.at_.step hb, h.row.below hb, h.map.below hb, h.lo⟩
/-- within a round: the copy, its change, the deed -/
structure US (w wx : World) (g q mb q12 r13 g9 : Nat) (c : Cfg) (b : Bk) (o p : Option Addr) (rv : Value) (xs : List Cg) (F : Int → Bool) (d : Bk) (o' p' : Option Addr) (x : Cg) (y : Dd) : Prop where
  rs : RS w wx g q mb c b o p rv xs F
  dk : BkAt wx q12 d o' p'
  da : BAt wx d o' p'
  ck : CgAt wx r13 x
  dd : DdAt wx g9 y
  ne : q ≠ q12
  rne : ∀ k, rv.ownBlock = some k → k ≠ r13
  lo : w.heap.size ≤ q12 ∧ w.heap.size ≤ r13
section
variable {w W W' : World} {g q mb q12 r13 g9 : Nat} {c : Cfg} {b : Bk} {o p : Option Addr} {rv : Value} {xs : List Cg} {F : Int → Bool} {d : Bk} {o' p' : Option Addr} {x : Cg} {y : Dd}
theorem US.step (h : US w W g q mb q12 r13 g9 c b o p rv xs F d o' p' x y) (hb : Below W.heap.size W W') : US w W' g q mb q12 r13 g9 c b o p rv xs F d o' p' x y :=
  ⟨h.rs.step hb, h.dk.step hb, h.da.step hb, h.ck.step hb, h.dd.step hb, h.ne, h.rne, h.lo⟩
theorem US.put12 (h : US w W g q mb q12 r13 g9 c b o p rv xs F d o' p' x y) {d2 : Bk} {o2 p2 : Option Addr} (hd : BAt W d2 o2 p2) : US w (W.setRow q12 (d2.cells o2 p2)) g q mb q12 r13 g9 c b o p rv xs F d2 o2 p2 x y :=
  ⟨⟨setRow_below h.rs.bel h.lo.1 _, At.farRow h.rs.cat (At.ne h.rs.cat h.dk (by decide)), At.farRow h.rs.bk h.ne, h.rs.at_.farRow h.dk (by decide) (by decide),
    h.rs.row.chg (chg_setRow _ _ _) (fun k hk e => by subst e; exact own_ne h.rs.row h.dk (by decide) hk), h.rs.map.setRow h.dk _, h.rs.lo⟩,
   At.setRow h.dk _, hd.farRow h.dk (by decide) (by decide), At.farRow h.ck (At.ne h.ck h.dk (by decide)), At.farRow h.dd (At.ne h.dd h.dk (by decide)), h.ne, h.rne, h.lo⟩
theorem US.put13 (h : US w W g q mb q12 r13 g9 c b o p rv xs F d o' p' x y) (x2 : Cg) : US w (W.setRow r13 x2.cells) g q mb q12 r13 g9 c b o p rv xs F d o' p' x2 y :=
  ⟨⟨setRow_below h.rs.bel h.lo.2 _, At.farRow h.rs.cat (At.ne h.rs.cat h.ck (by decide)), At.farRow h.rs.bk (At.ne h.rs.bk h.ck (by decide)), h.rs.at_.farRow h.ck (by decide) (by decide),
    h.rs.row.chg (chg_setRow _ _ _) (fun k hk e => h.rne k hk e), h.rs.map.setRow h.ck _, h.rs.lo⟩,
   At.farRow h.dk (At.ne h.dk h.ck (by decide)), h.da.farRow h.ck (by decide) (by decide), At.setRow h.ck _, At.farRow h.dd (At.ne h.dd h.ck (by decide)), h.ne, h.rne, h.lo⟩
/-- the deed, the copy and the change in new blocks -/
theorem US.new (h : RS w W g q mb c b o p rv xs F) (hd : DdAt W g9 y) : US w ((W.alloc (.cells (b.cells o p) 32)).alloc (.cells zg.cells 39)) g q mb W.heap.size (W.heap.size + 1) g9 c b o p rv xs F b o p zg y := by
  obtain ⟨h1, h2, h3⟩ := new2 W (b.cells o p) zg.cells 32 39
  have hs := h.bel.size
  exact ⟨h.step h1, h2, h.at_.step h1, h3, hd.step h1, by have := At.lt h.bk; omega, fun k hk => by have := (h.row.lt hk).2; omega, ⟨hs, by omega⟩⟩
end
/-- what a deed came to -/
def Res (b d : Bk) (x : Cg) (e : Int) : Prop := (e = 0 ∧ applyB b x = (d, 0)) ∨ (e ≠ 0 ∧ d = zb ∧ x = zg)
theorem res_three {b d : Bk} {g : Cg} {e : Int} {r : Bk × Cg × Int} (hr : r = (d, g, e)) (ok : ∀ {d g}, r = (d, g, 0) → applyB b g = (d, 0)) (err : r.2.2 ≠ 0 → r.1 = zb ∧ r.2.1 = zg) : Res b d g e := by
  by_cases he : e = 0
  · subst he; exact .inl ⟨rfl, ok hr⟩
  · subst hr
    obtain ⟨h1, h2⟩ := err he
    exact .inr ⟨he, h1, h2⟩
end Go.Proofs.Ytodacdooooeofaa
/- BookReplays: the changes' row and the map are written. -/
namespace Go.Proofs.Ytodacdooooeofaa
open Go.RowKit Go.Lib
open Sh.Plain (KV put del Rise)
set_option linter.unusedVariables false
set_option linter.unusedSimpArgs false

theorem TAt.chg {w w' : World} {B : Nat} {S : Nat → Prop} (hc : Chg w w' S) (h1 : ∀ g cs, At w g 96 cs → ¬ S g) (h2 : ∀ g cs, At w g 75 cs → ¬ S g) : ∀ {t : Sh.Plain.T} {v : Value}, Sh.TAt w B v t → Sh.TAt w' B v t
  | .nil, _, h => h
  | .node l p x r, v, h => by
    obtain ⟨g, vl, vr, rfl, hg, hp, hn, hx, hl, hr⟩ := h
    exact ⟨g, vl, vr, rfl, hg, hp, At.chg hn hc (h1 _ _ hn), At.chg hx hc (h2 _ _ hx), TAt.chg hc h1 h2 hl, TAt.chg hc h1 h2 hr⟩
theorem SAt.chg {w w' : World} {S : Nat → Prop} (hc : Chg w w' S) (h1 : ∀ g cs, At w g 96 cs → ¬ S g) (h2 : ∀ g cs, At w g 75 cs → ¬ S g) {v : Value} {l : List KV} {room : Nat} (h : Sh.SAt w v l room) : Sh.SAt w' v l room := by
  obtain ⟨vt, t, rfl, h3, h4⟩ := h
  exact ⟨vt, t, rfl, (TAt.chg hc h1 h2 h3).mono hc.size, h4⟩
theorem BAt.chg {w w' : World} {S : Nat → Prop} (hc : Chg w w' S) (h1 : ∀ g cs, At w g 96 cs → ¬ S g) (h2 : ∀ g cs, At w g 75 cs → ¬ S g) {b : Bk} {o p : Option Addr} (h : BAt w b o p) : BAt w' b o p := ⟨SAt.chg hc h1 h2 h.1, SAt.chg hc h1 h2 h.2⟩
theorem EAt.own {w : World} {b n base size m : Nat} {F : Int → Bool} {e : TypeId} {v : Value} {xs : List Value} (h : EAt w b n F) (ho : w.ownsRow base e size v m xs) : v.ownBlock ≠ some b := by
  obtain ⟨D, h1, _⟩ := h
  obtain ⟨es, clock, hb, _⟩ := h1
  rcases ho.2 with ⟨rfl, _⟩ | ⟨g', cap, cur, rfl, _, hh, _⟩
  · simp [Value.ownBlock]
  · intro he
    have : g' = b := by simpa [Value.ownBlock] using he
    subst this
    rw [hb] at hh
    injection hh with hh
    cases hh
theorem run_lookup {ρ : Operand → Value} {w : World} {x y : Tmp} {d : Option Tmp} {t : TypeId} {pos : String} {af : Array Edge} {gd : Option (Nat × Bool)} {mb : Nat} {k v : Int} (e0 : ρ (.tmp x) = .map (some mb)) (e1 : ρ (.tmp y) = .int .i64 k) (hm : (Instr.lookup 35 (.map (some mb)) (.int .i64 k) false).run Try.prog w = .ok (.int .i64 v) w) : (execOp ρ { dst := d, op := Op.lookup 35 (.tmp x) (.tmp y) false, type := t, pos := pos, after := af, guard := gd }).run Try.prog w = .ok (.value (.int .i64 v)) w := by
  simp only [execOp, e0, e1, Sem.run_bind, hm, Result.andThen_ok, Sem.run_pure]
/-- before the change is appended -/
structure PS (w W : World) (g q mb q12 r13 : Nat) (c : Cfg) (b : Bk) (o p : Option Addr) (rv : Value) (xs : List Cg) (F : Int → Bool) (d : Bk) (o' p' : Option Addr) (x : Cg) : Prop where
  bel : Below w.heap.size w W
  cat : CAt W g c
  bk : BkAt W q b o p
  dk : BkAt W q12 d o' p'
  da : BAt W d o' p'
  ck : CgAt W r13 x
  row : Sh.Own eG W w.heap.size rv xs
  map : EAt W mb (xs.length + 1) F
  lo : w.heap.size ≤ q ∧ w.heap.size ≤ mb
section
variable {w W W' : World} {g q mb q12 r13 g9 : Nat} {c : Cfg} {b : Bk} {o p : Option Addr} {rv : Value} {xs : List Cg} {F : Int → Bool} {d : Bk} {o' p' : Option Addr} {x : Cg} {y : Dd}
theorem US.ps (h : US w W g q mb q12 r13 g9 c b o p rv xs F d o' p' x y) : PS w W g q mb q12 r13 c b o p rv xs F d o' p' x := ⟨h.rs.bel, h.rs.cat, h.rs.bk, h.dk, h.da, h.ck, h.rs.row, h.rs.map.mono (Nat.le_succ _), h.rs.lo⟩
theorem US.upd (h : US w W g q mb q12 r13 g9 c b o p rv xs F d o' p' x y) (hn : xs.length < 100000) {k : Int} (hk : (Lit.int .i64 k).wf = true) : ∃ W', (Instr.mapUpdate 35 (.map (some mb)) (.int .i64 k) (.int .i64 1)).run Try.prog W = .ok () W' ∧ PS w W' g q mb q12 r13 c b o p rv xs (fun z => F z || decide (z = k)) d o' p' x := by
  obtain ⟨W', hr, hm, hc⟩ := h.rs.map.update hn hk
  have ne : ∀ {t g cs}, At W g t cs → ¬ g = mb := fun ha e => h.rs.map.apart ha e.symm
  refine ⟨W', hr, h.rs.bel.trans (hc.toBelow h.rs.bel.size (fun k hk e => by have := h.rs.lo.2; omega)), At.chg h.rs.cat hc (ne h.rs.cat), At.chg h.rs.bk hc (ne h.rs.bk), At.chg h.dk hc (ne h.dk), BAt.chg hc (fun _ _ ha => ne ha) (fun _ _ ha => ne ha) h.da, At.chg h.ck hc (ne h.ck), h.rs.row.chg hc (fun k hk e => ?_), hm, h.rs.lo⟩
  subst e
  exact h.rs.map.own h.rs.row hk
theorem PS.push (h : PS w W g q mb q12 r13 c b o p rv xs F d o' p' x) (hn : xs.length ≤ 1000) (ty : TypeId) : ∃ rv' W', (Builtin.append_ #[34, 34] ty #[rv, .slice (some ⟨W.heap.size, 0, none⟩) 1 1]).run Try.prog (W.alloc (.cells x.cells 39)) = .ok rv' W' ∧ BkAt W' q b o p ∧ BkAt W' q12 d o' p' ∧ RS w (W'.setRow q (d.cells o' p')) g q mb c d o' p' rv' (xs ++ [x]) F := by
  have hb : Below W.heap.size W (W.alloc (.cells x.cells 39)) := below_new _ _
  have ho := h.row.below hb
  have hs := h.bel.size
  obtain ⟨rv', W', hr, ho', hc, _⟩ := ho.push (x := x) (b := W.heap.size) (off := 0) (cap := 1) (by simp; omega) (fun j u hu => by
    rw [Nat.zero_add, (At.new W 39 x.cells).cell]
    simpa [eG] using hu) (by omega) ty
  have cat := At.step h.cat hb; have bk := At.step h.bk hb; have dk := At.step h.dk hb
  have cat' := At.chg cat hc (own_ne ho cat (by decide)); have bk' := At.chg bk hc (own_ne ho bk (by decide)); have dk' := At.chg dk hc (own_ne ho dk (by decide))
  have da' := BAt.chg hc (fun _ _ ha => own_ne ho ha (by decide)) (fun _ _ ha => own_ne ho ha (by decide)) (h.da.step hb)
  have mp := h.map.below hb
  have mp' := mp.chg hc (mp.own ho)
  have bel : Below w.heap.size w W' := (h.bel.trans (hb.mono hs)).trans (hc.below' ho (by simp; omega))
  refine ⟨rv', W', hr, bk', dk', setRow_below bel h.lo.1 _, At.farRow cat' (At.ne cat' bk' (by decide)), At.setRow bk' _, da'.farRow bk' (by decide) (by decide), ho'.chg (chg_setRow _ _ _) (fun k hk e => by subst e; exact own_ne ho' bk' (by decide) hk), ?_, h.lo⟩
  rw [List.length_append]
  exact mp'.setRow bk' _
end
end Go.Proofs.Ytodacdooooeofaa
/- BookReplays: the changes applied again, and what lives. -/
namespace Go.Proofs.Ytodacdooooeofaa
open Go.RowKit Go.Lib
open Sh.Plain (KV put del Rise)
set_option linter.unusedVariables false
set_option linter.unusedSimpArgs false

theorem run_load_cgr {ρ : Operand → Value} {w : World} {x : Tmp} {g off : Nat} {c : Cg} {d : Option Tmp} {t : TypeId} {pos : String} {af : Array Edge} {gd : Option (Nat × Bool)} (e : ρ (.tmp x) = ptr g off) (h : w.rangeAt g off c.cells.toList) :
    (execOp ρ { dst := d, op := Op.load 39 (.tmp x), type := t, pos := pos, after := af, guard := gd }).run Try.prog w = .ok (.value c.V) w := by
  unfold execOp
  simp only [e, Instr.loadAt, Instr.sureAddr, Sem.run_bind, Sem.run_pure, Result.andThen_ok, run_loadVar_mid (P := Try.prog) w g off 39 _ _ h Try.underlying39 rfl (size39 c), Array.toArray_toList]
/-- a book beside an error, as a tuple -/
def DvAt (b : Bk) (n : Int) (v : Value) (w : World) : Prop := ∃ o p, v = .tuple #[b.V o p, .int .i64 n] ∧ BAt w b o p
theorem DvAt.keep {b : Bk} {n : Int} {v : Value} {w w' : World} (h : DvAt b n v w) (hb : Below w.heap.size w w') : DvAt b n v w' := by
  obtain ⟨o, p, rfl, h⟩ := h
  exact ⟨o, p, rfl, h.step hb⟩
theorem row_at {w : World} {O : Option Addr} {n cap i : Nat} {xs : List Cg} {x : Cg} (h : Sh.Rd eG w (.slice O n cap) xs) (hx : xs[i]? = some x) : ∃ b off, O = some ⟨b, off, none⟩ ∧ b < w.heap.size ∧ w.rangeAt b (off + i * 11) x.cells.toList := by
  obtain ⟨O', cap', e, _, k⟩ := h
  injection e with e
  subst e
  exact k i x hx
theorem rowK_at {w : World} {O : Option Addr} {n cap i : Nat} {xs : List K} {x : K} (h : Sh.Rd Sh.eC w (.slice O n cap) xs) (hx : xs[i]? = some x) : ∃ b off, O = some ⟨b, off, none⟩ ∧ b < w.heap.size ∧ w.rangeAt b (off + i * 8) x.cells.toList := by
  obtain ⟨O', cap', e, _, k⟩ := h
  injection e with e
  subst e
  exact k i x hx
theorem ok_step {b d : Bk} {x : Cg} (h : b.Ok) (ha : applyB b x = (d, 0)) : d.Ok := by
  obtain ⟨h0, hx, hs, ht, rfl⟩ := applyB_ok ha
  have hi := h.ix
  have hj : 0 ≤ x.ix ∧ x.ix ≤ top := by omega
  by_cases hc : x.car = 0
  · cases hk : livesK x.k
    · rw [withB_done hc hk]; exact ⟨h.pos, hj⟩
    · rw [withB_live hc hk]; exact ⟨h.pos, hj⟩
  · rw [withB_car hc]; exact ⟨h.pos, hj⟩
theorem runB_cons {s b : Bk} {x : Cg} {xs : List Cg} (h : runB s (x :: xs) = some b) : ∃ d, applyB s x = (d, 0) ∧ runB d xs = some b := by
  unfold runB at h
  split at h
  · next e => exact ⟨_, Prod.ext rfl e, h⟩
  · cases h
/-- the second book, as it grows -/
structure LS (w wx : World) (q q15 : Nat) (b : Bk) (o p : Option Addr) (rv : Value) (xs : List Cg) (r : Bk) (o2 p2 : Option Addr) : Prop where
  bel : Below w.heap.size w wx
  bk : BkAt wx q b o p
  at_ : BAt wx b o p
  row : Sh.Own eG wx w.heap.size rv xs
  rk : BkAt wx q15 r o2 p2
  ra : BAt wx r o2 p2
  ne : q ≠ q15
  lo : w.heap.size ≤ q ∧ w.heap.size ≤ q15
section
variable {w W W' : World} {g q mb q15 q17 : Nat} {c : Cfg} {b : Bk} {o p : Option Addr} {rv : Value} {xs : List Cg} {F : Int → Bool} {r d : Bk} {o2 p2 o4 p4 : Option Addr}
theorem LS.step (h : LS w W q q15 b o p rv xs r o2 p2) (hb : Below W.heap.size W W') : LS w W' q q15 b o p rv xs r o2 p2 := ⟨h.bel.trans (hb.mono h.bel.size), h.bk.step hb, h.at_.step hb, h.row.below hb, h.rk.step hb, h.ra.step hb, h.ne, h.lo⟩
theorem LS.new (h : RS w W g q mb c b o p rv xs F) (ha : BAt W' r o2 p2) (hb : Below W.heap.size W W') : LS w (W'.alloc (.cells (r.cells o2 p2) 32)) q W'.heap.size b o p rv xs r o2 p2 := by
  have hb2 := below_new W' (.cells (r.cells o2 p2) 32)
  have hb3 := hb.trans (hb2.mono hb.size)
  have h2 := h.step hb3
  exact ⟨h2.bel, h2.bk, h2.at_, h2.row, At.new _ _ _, ha.step hb2, by have := At.lt h.bk; have := hb.size; omega, ⟨h.lo.1, Nat.le_trans h.bel.size hb.size⟩⟩
/-- a fresh block holds the answer -/
theorem LS.fresh (h : LS w W q q15 b o p rv xs r o2 p2) (hq : BkAt W q17 zb none none) (hd : BAt W d o4 p4) (lq : w.heap.size ≤ q17) (h1 : q17 ≠ q) (h2 : q17 ≠ q15) : LS w (W.setRow q17 (d.cells o4 p4)) q q15 b o p rv xs r o2 p2 ∧ BkAt (W.setRow q17 (d.cells o4 p4)) q17 d o4 p4 ∧ BAt (W.setRow q17 (d.cells o4 p4)) d o4 p4 :=
  ⟨⟨setRow_below h.bel lq _, At.farRow h.bk (Ne.symm h1), h.at_.farRow hq (by decide) (by decide), h.row.chg (chg_setRow _ _ _) (fun k hk e => by subst e; exact own_ne h.row hq (by decide) hk), At.farRow h.rk (Ne.symm h2), h.ra.farRow hq (by decide) (by decide), h.ne, h.lo⟩, At.setRow hq _, hd.farRow hq (by decide) (by decide)⟩
theorem LS.put (h : LS w W q q15 b o p rv xs r o2 p2) (hd : BAt W d o4 p4) : LS w (W.setRow q15 (d.cells o4 p4)) q q15 b o p rv xs d o4 p4 :=
  ⟨setRow_below h.bel h.lo.2 _, At.farRow h.bk h.ne, h.at_.farRow h.rk (by decide) (by decide), h.row.chg (chg_setRow _ _ _) (fun k hk e => by subst e; exact own_ne h.row h.rk (by decide) hk), At.setRow h.rk _, hd.farRow h.rk (by decide) (by decide), h.ne, h.lo⟩
end
/-- the calls of a book: each lives, ids rise, none over the index -/
theorem live_rows {c : Cfg} {b : Bk} {xs : List Cg} {F : Int → Bool} (h : RPl c b xs F) (hr : Rise b.live) {i : Nat} {x : K} (hx : (b.live.map (·.2))[i]? = some x) : livesK x = true ∧ x.id ≤ b.ix ∧ ∀ y, 0 < i → (b.live.map (·.2))[i - 1]? = some y → y.id < x.id := by
  rw [List.getElem?_map] at hx
  cases e : b.live[i]? with
  | none => rw [e] at hx; cases hx
  | some p =>
    rw [e] at hx
    have hx : p.2 = x := Option.some.inj hx
    obtain ⟨a1, a2, a3, a4⟩ := h.keys p (List.mem_of_getElem? e)
    rw [hx] at a1 a2
    refine ⟨a2, by omega, fun y hi hy => ?_⟩
    rw [List.getElem?_map] at hy
    cases e2 : b.live[i - 1]? with
    | none => rw [e2] at hy; cases hy
    | some p2 =>
      rw [e2] at hy
      have hy : p2.2 = y := Option.some.inj hy
      obtain ⟨c1, c2, c3, c4⟩ := h.keys p2 (List.mem_of_getElem? e2)
      rw [hy] at c1
      have hlt : p2.1 < p.1 := by
        obtain ⟨l1, q1⟩ := List.getElem?_eq_some_iff.1 e2
        obtain ⟨l2, q2⟩ := List.getElem?_eq_some_iff.1 e
        have := List.pairwise_iff_getElem.1 hr (i - 1) i l1 l2 (by omega)
        rw [q1, q2] at this
        simpa [Sh.Plain.lt] using this
      omega
end Go.Proofs.Ytodacdooooeofaa
