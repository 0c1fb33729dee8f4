import Derived.Test.YtplapoenhohliaaGreatTMem
import Derived.ProofKit
import Derived.OpenShut
import Derived.ShutString
import Derived.ChangeSlices
import Derived.Deep.Grids
import Derived.Deep.DrawnRows
import Derived.Lib.AppendZeros
import Derived.Maps.AppendAt
import Derived.Test.YtplapoenhohliaaGreatTrF
namespace Go.Proofs.YtplapoenhohliaaGreat.Sh
open Go.RowKit Go.Lib Plain
set_option linter.unusedVariables false
structure El (α : Type) where
 ts : TypeId
 e : TypeId
 s : Nat
 b : Nat
 z : Value
 enc : α → List Value
 len : ∀ x, (enc x).length = s
 one : ∀ x, ∀ u ∈ enc x, u.oneCell' = true
 pos : 0 < s
 hts : Tryz.prog.underlying ts = some (.slice e)
 info : ∃ i, Tryz.prog.info? e = some i ∧ i.zero = some z ∧ i.size = s ∧ i.bytes = b
 zs : z.cells.size = s
 hb : b ≤ 1000
theorem info_of {e : TypeId} {z : Value} {s b : Nat} (h : (Tryz.prog.info? e).map (fun i => (i.zero, i.size, i.bytes)) = some (some z, s, b)) : ∃ i, Tryz.prog.info? e = some i ∧ i.zero = some z ∧ i.size = s ∧ i.bytes = b := by
 obtain ⟨i, hi, h0, h1, h2⟩ := info_parts h
 exact ⟨i, hi, h0, h1, h2⟩
def eP : El Nat := ⟨138, 135, 1, 8, .pointer none, fun p => [ptr p], fun _ => rfl, by simp [Value.oneCell'], by decide, Tryz.underlying138, info_of (by kernel_rfl), rfl, by decide⟩
def eI : El Int := ⟨147, 3, 1, 8, .int .i64 0, fun s => [.int .i64 s], fun _ => rfl, by simp [Value.oneCell'], by decide, Tryz.underlying147, info_of (by kernel_rfl), rfl, by decide⟩
def Z9 : Array Value := #[.int .i64 0, .int .i64 0, .int .i64 0, .int .i64 0, .int .i64 0, .int .i64 0, .int .i64 0, .int .i64 0, .int .i64 0]
def eK : El KV := ⟨116, 119, 9, 72, .agg Z9, fun x => (pc x).toList, fun _ => rfl, by simp [pc, Value.oneCell'], by decide, Tryz.underlying116, info_of (by kernel_rfl), rfl, by decide⟩
def eC : El K := ⟨63, 46, 8, 64, .agg zk.cells, fun x => x.cells.toList, fun _ => rfl, by simp [K.cells, Value.oneCell'], by decide, Tryz.underlying63, info_of (by kernel_rfl), rfl, by decide⟩
section
variable {α : Type} {E : El α} {w w' : World} {B : Nat} {v : Value} {xs : List α}
def Own (E : El α) (w : World) (B : Nat) (v : Value) (xs : List α) : Prop := w.ownsRow B E.e E.s v xs.length (xs.flatMap E.enc)
def Rd (E : El α) (w : World) (v : Value) (xs : List α) : Prop :=
 ∃ O cap, v = .slice O xs.length cap ∧ xs.length ≤ cap ∧ ∀ i x, xs[i]? = some x → ∃ b off, O = some ⟨b, off, none⟩ ∧ b < w.heap.size ∧ ∀ j u, (E.enc x)[j]? = some u → w.cell? ⟨b, off + i * E.s + j, none⟩ = some u
theorem flat_length (E : El α) : ∀ xs : List α, (xs.flatMap E.enc).length = xs.length * E.s
 | [] => by simp
 | x :: xs => by rw [List.flatMap_cons, List.length_append, E.len, flat_length E xs, List.length_cons, Nat.add_mul]; omega
theorem flat_get (E : El α) : ∀ (xs : List α) (i j : Nat) (x : α) (u : Value), xs[i]? = some x → (E.enc x)[j]? = some u → (xs.flatMap E.enc)[i * E.s + j]? = some u
 | [], i, j, x, u, h, _ => by simp at h
 | y :: xs, 0, j, x, u, h, k => by
  have : y = x := by simpa using h
  subst this
  rw [List.flatMap_cons, List.getElem?_append_left (by have := (List.getElem?_eq_some_iff.1 k).1; omega), Nat.zero_mul, Nat.zero_add]
  exact k
 | y :: xs, i + 1, j, x, u, h, k => by
  rw [List.flatMap_cons, List.getElem?_append_right (by rw [E.len, Nat.add_mul]; omega), E.len, show (i + 1) * E.s + j - E.s = i * E.s + j by rw [Nat.add_mul]; omega]
  exact flat_get E xs i j x u (by simpa using h) k
theorem add_at (b off i : Nat) : (⟨b, off, none⟩ : Addr).add i = ⟨b, off + i, none⟩ := by
 unfold Addr.add
 by_cases h1 : i = 0 <;> simp [h1]
theorem Own.form (h : Own E w B v xs) : (v = .slice none 0 0 ∧ xs = []) ∨ ∃ g cap, v = .slice (some ⟨g, 0, none⟩) xs.length cap ∧ xs.length ≤ cap ∧ B ≤ g ∧ g < w.heap.size := by
 rcases h.2 with ⟨rfl, h0⟩ | ⟨g, cap, cur, rfl, hb, hg, hn, _⟩
 ·exact .inl ⟨rfl, List.length_eq_zero_iff.1 h0⟩
 ·exact .inr ⟨g, cap, rfl, hn, hb, (Array.getElem?_eq_some_iff.1 hg).1⟩
theorem Own.rd (h : Own E w B v xs) : Rd E w v xs := by
 rcases h.form with ⟨rfl, rfl⟩ | ⟨g, cap, rfl, hc, _, hg⟩
 ·exact ⟨none, 0, rfl, Nat.le_refl _, fun i x hx => by simp at hx⟩
 ·refine ⟨_, cap, rfl, hc, fun i x hx => ⟨g, 0, rfl, hg, fun j u hu => ?_⟩⟩
  have := World.ownsRow.cells h (g := g) rfl (i * E.s + j) u (flat_get E xs i j x u hx hu)
  rw [add_at, ← Nat.add_assoc] at this
  exact this
theorem Own.chg {S : Nat → Prop} (h : Own E w B v xs) (hc : Chg w w' S) (hv : ∀ k, v.ownBlock = some k → ¬ S k) : Own E w' B v xs := own_chg h hc hv
theorem Own.below (h : Own E w B v xs) (hb : Below w.heap.size w w') : Own E w' B v xs := own_chg h (Chg.ofBelow hb (fun _ => False)) (fun _ _ h => h)
theorem Own.lt (h : Own E w B v xs) {g : Nat} (hg : v.ownBlock = some g) : B ≤ g ∧ g < w.heap.size := World.ownsRow.lt h g hg
theorem Own.mono {B' : Nat} (h : Own E w B v xs) (hB : B' ≤ B) : Own E w B' v xs := by
 refine ⟨h.1, ?_⟩
 rcases h.2 with hn | ⟨g, cap, cur, hv, hb, rest⟩
 ·exact .inl hn
 ·exact .inr ⟨g, cap, cur, hv, by omega, rest⟩
theorem Own.nil (E : El α) (w : World) (B : Nat) : Own E w B (.slice none 0 0) [] := World.ownsRow_nil w B E.e E.s
theorem Own.lit0 (E : El α) (w : World) {B : Nat} (hB : B ≤ w.heap.size) : Own E (w.alloc (.cells #[] E.e)) B (.slice (some ⟨w.heap.size, 0, none⟩) 0 0) [] := World.ownsRow_lit w #[] 0 hB (by decide) (by simp)
theorem Rd.below (h : Rd E w v xs) (hb : Below w.heap.size w w') : Rd E w' v xs := by
 obtain ⟨O, cap, rfl, hc, h⟩ := h
 refine ⟨O, cap, rfl, hc, fun i x hx => ?_⟩
 obtain ⟨b, off, rfl, hlt, k⟩ := h i x hx
 exact ⟨b, off, rfl, Nat.lt_of_lt_of_le hlt hb.size, fun j u hu => (hb.cell (p := ⟨b, _, none⟩) hlt).trans (k j u hu)⟩
theorem Own.push {x : α} (h : Own E w B v xs) (hB : B ≤ w.heap.size) {b off cap : Nat} (hc : ∀ j u, (E.enc x)[j]? = some u → w.cell? ⟨b, off + j, none⟩ = some u) (hn : xs.length ≤ 1000000) (ty : TypeId) :
  ∃ v' w', (Builtin.append_ #[E.ts, E.ts] ty #[v, .slice (some ⟨b, off, none⟩) 1 cap]).run Tryz.prog w = .ok v' w' ∧ Own E w' B v' (xs ++ [x]) ∧ Chg w w' (fun k => v.ownBlock = some k) ∧ Lies w v v' := by
 obtain ⟨i, hi, hz, hs, hb⟩ := E.info
 have h24 := E.hb
 obtain ⟨v', w', hr, h2, h3, _, h5⟩ := run_append_own_at (P := Tryz.prog) w B E.ts ty E.e i _ E.s E.b E.hts hi hz hs hb E.zs E.pos v xs.length _ h ⟨b, off, none⟩ 1 cap (E.enc x) (by rw [E.len]; omega)
  (fun j u hu => by rw [add_at]; exact hc j u hu) (E.one x) (by unfold maxLen; omega) (by
   have : (xs.length + 1) * E.b ≤ 1000001 * 1000 := Nat.mul_le_mul (by omega) h24
   omega) hB
 refine ⟨v', w', hr, ?_, Chg.grown h3, ?_⟩
 ·unfold Own
  rw [List.length_append, List.flatMap_append, List.flatMap_singleton]
  exact h2
 ·rcases h5 with h5 | h5
  ·exact .inl h5
  ·exact .inr ⟨_, h5, Nat.le_refl _⟩
theorem Own.join {u : Value} {us : List α} (h : Own E w B v xs) (hB : B ≤ w.heap.size) (hs : (u = .slice none 0 0 ∧ us = []) ∨ ∃ b off cap, u = .slice (some ⟨b, off, none⟩) us.length cap ∧ ∀ i x, us[i]? = some x → ∀ j y, (E.enc x)[j]? = some y → w.cell? ⟨b, off + i * E.s + j, none⟩ = some y) (hn : xs.length + us.length ≤ 1000000) (ty : TypeId) :
  ∃ v' w', (Builtin.append_ #[E.ts, E.ts] ty #[v, u]).run Tryz.prog w = .ok v' w' ∧ Own E w' B v' (xs ++ us) ∧ Chg w w' (fun k => v.ownBlock = some k) ∧ Lies w v v' := by
 obtain ⟨i, hi, hz, hsz, hb⟩ := E.info
 have h24 := E.hb
 rcases hs with ⟨rfl, rfl⟩ | ⟨b, off, cap, rfl, hc⟩
 ·refine ⟨v, w, run_append_owned_none (P := Tryz.prog) (w := w) B E.ts ty E.e i E.s E.hts hi v xs.length _ h, ?_, Chg.refl _ _, Lies.refl _ _⟩
  rw [List.append_nil]; exact h
 ·obtain ⟨v', w', hr, h2, h3, _, h5⟩ := run_append_own_at (P := Tryz.prog) w B E.ts ty E.e i _ E.s E.b E.hts hi hz hsz hb E.zs E.pos v xs.length _ h ⟨b, off, none⟩ us.length cap (us.flatMap E.enc) (flat_length E us)
   (fun j y hy => by
    have hpos := E.pos
    have hj : j < us.length * E.s := by have := (List.getElem?_eq_some_iff.1 hy).1; rwa [flat_length] at this
    have hq : j / E.s < us.length := Nat.div_lt_of_lt_mul (by rw [Nat.mul_comm]; exact hj)
    have hm : j % E.s < E.s := Nat.mod_lt _ hpos
    have hd : j / E.s * E.s + j % E.s = j := by rw [Nat.mul_comm]; exact Nat.div_add_mod j E.s
    have hx : us[j / E.s]? = some us[j / E.s] := List.getElem?_eq_getElem hq
    have hy2 : (E.enc us[j / E.s])[j % E.s]? = some y := by
     cases hh : (E.enc us[j / E.s])[j % E.s]? with
     | none => rw [List.getElem?_eq_none_iff, E.len] at hh; omega
     | some y2 =>
      have := flat_get E us _ _ _ _ hx hh
      rw [hd, hy] at this
      exact this.symm ▸ rfl
    have := hc _ _ hx _ _ hy2
    rw [add_at, ← hd, ← Nat.add_assoc]
    exact this)
   (fun u hu => by
    obtain ⟨x, _, hx⟩ := List.mem_flatMap.1 hu
    exact E.one x u hx) (by unfold maxLen; omega) (by
    have : (xs.length + us.length) * E.b ≤ 1000000 * 1000 := Nat.mul_le_mul hn h24
    omega) hB
  refine ⟨v', w', hr, ?_, Chg.grown h3, ?_⟩
  ·unfold Own
   rw [List.length_append, List.flatMap_append]
   exact h2
  ·rcases h5 with h5 | h5
   ·exact .inl h5
   ·exact .inr ⟨_, h5, Nat.le_refl _⟩
theorem made (E : El α) (n : Nat) (hn : n ≤ 1000000) : ∃ M : Array Value, (∀ W : World, (Instr.makeSlice E.ts (.int .i64 0) (.int .i64 (n : Int))).run Tryz.prog W = .ok (.slice (some ⟨W.heap.size, 0, none⟩) 0 n) (W.alloc (.cells M E.e))) ∧ ∀ (W : World) (B : Nat), B ≤ W.heap.size → Own E (W.alloc (.cells M E.e)) B (.slice (some ⟨W.heap.size, 0, none⟩) 0 n) [] := by
 obtain ⟨i, hi, hz, hs, hb⟩ := E.info
 have h24 := E.hb
 refine ⟨madeCells E.z.cells (n * E.s), fun W => ?_, fun W B hB => ?_⟩
 ·have h := run_make (P := Tryz.prog) W E.ts E.e i E.z E.hts hi hz .i64 .i64 0 (n : Int) (by omega) (by omega) (by
   rw [hb]
   have : (E.b * n : Nat) ≤ 1000 * 1000000 := Nat.mul_le_mul h24 hn
   have e : (E.b : Int) * (n : Int) = ((E.b * n : Nat) : Int) := by simp
   omega) (by omega)
  rw [hs] at h
  simpa using h
 ·exact ⟨by simp, .inr ⟨W.heap.size, n, _, rfl, hB, heap_alloc_new W _, Nat.zero_le _, by unfold maxLen; omega, by rw [size_madeCells], by simp⟩⟩
theorem _root_.Go.Proofs.YtplapoenhohliaaGreat.Chg.below' {B : Nat} (h : Chg w w' (fun k => v.ownBlock = some k)) (ho : Own E w B v xs) (hB : B ≤ w.heap.size) : Below B w w' := h.toBelow hB (fun k hk e => by have := (ho.lt e).1; omega)
end
end Go.Proofs.YtplapoenhohliaaGreat.Sh
namespace Go.Proofs.YtplapoenhohliaaGreat.Sh
open Go.RowKit Go.Lib Plain
set_option linter.unusedVariables false
theorem step_append_run {P : Program} {ops : Array Oper} {o : Oper} {a : Go.Act} {w : World} {K : Go.Act → World → Prop} {Q : Exit → Go.Act → World → Prop} {E : Prop} (hgd : o.guard = none) (s x : Operand) (t tn : TypeId)
  (ho : o.op = .call { callee := .builtin .append, args := #[s, x], argTypes := #[t, tn] }) (vs vx : Value) (hs : a.eval s = vs) (hx : a.eval x = vx) (v' : Value) (w' : World) (hr : (Builtin.append_ #[t, tn] o.type #[vs, vx]).run P w = .ok v' w')
  (h : K (a.put o.dst v') w') : if Region.wanted o (yielded ops a.tmps) = true then Oper.wp P o a w K Q else E := by
 have hw : Region.wanted o (yielded ops a.tmps) = true := by simp [Region.wanted, hgd]
 rw [if_pos hw]
 unfold Oper.wp execOp
 simp only [ho, resolve, invoke, builtin, Sem.run_bind, Sem.run_pure, Result.andThen_ok, List.map_toArray, List.map_cons, List.map_nil, hs, hx, hr]
 exact h
section
variable {w W : World} {B : Nat} {v vl vr sv : Value} {t tl tr : T} {ps : List Nat}
def BPost (w : World) (B : Nat) (sv : Value) (ps : List Nat) (e : Ending) (w' : World) : Prop := ∃ sv', e = .returned sv' ∧ Own eP w' B sv' ps ∧ Chg w w' (fun k => sv.ownBlock = some k) ∧ Lies w sv sv'
set_option maxRecDepth 100000 in
set_option maxHeartbeats 1600000 in
theorem behind_nil (h : Own eP w B sv ps) : Calls Tryz.prog 104 #[.pointer none, sv] w (BPost w B sv ps) := by
 have H := Lib.hid h; clear h
 go_enter Tryz.func104, Tryz.ntmps104
 go_wp2
 go_ret
 exact ⟨sv, rfl, H.out, Chg.refl _ _, Lies.refl _ _⟩
abbrev litP (p : Nat) : Obj := .cells #[ptr p] 135
theorem lit_cell {p g : Nat} (h : At w g 135 #[ptr p]) : ∀ j u, (eP.enc p)[j]? = some u → w.cell? ⟨g, 0 + j, none⟩ = some u := by
 intro j u hu
 rw [h.cell]
 have : (eP.enc p) = [ptr p] := rfl
 rw [this] at hu
 cases j with
 | zero => simpa using hu
 | succ j => simp at hu
structure Three (w : World) (B : Nat) (sv : Value) (W : World) (sv' : Value) (ps : List Nat) : Prop where
 own : Own eP W B sv' ps
 chg : Chg w W (fun k => sv.ownBlock = some k)
 lies : Lies w sv sv'
theorem Three.step {W W' : World} {sv1 sv2 : Value} {ps1 ps2 : List Nat} (h : Three w B sv W sv1 ps1) (ho : Own eP W' B sv2 ps2) (hc : Chg W W' (fun k => sv1.ownBlock = some k)) (hl : Lies W sv1 sv2) : Three w B sv W' sv2 ps2 :=
 ⟨ho, h.chg.trans hc (fun i hi e => h.lies.old e hi), h.lies.trans hl h.chg.size⟩
theorem Three.alloc {sv1 : Value} {ps1 : List Nat} (h : Three w B sv W sv1 ps1) (o : Obj) : Three w B sv (W.alloc o) sv1 ps1 :=
 ⟨h.own.below ((Below.refl _ _).alloc (Nat.le_refl _) _), h.chg.alloc o, h.lies⟩
theorem Three.start (h : Own eP w B sv ps) : Three w B sv w sv ps := ⟨h, Chg.refl _ _, Lies.refl _ _⟩
theorem Three.drew {sv1 : Value} {ps1 : List Nat} (h : Three w B sv W sv1 ps1) : Three w B sv W.drew sv1 ps1 := ⟨h.own, h.chg.drew, h.lies⟩
theorem Three.below {sv1 : Value} {ps1 : List Nat} (h : Three w B sv W sv1 ps1) (ho : Own eP w B sv ps) (hB : B ≤ w.heap.size) : Below B w W := h.chg.below' ho hB
set_option maxRecDepth 100000 in
set_option maxHeartbeats 1600000 in
theorem behind_node {g p : Nat} {h : Nat} {ps1 ps3 : List Nat} (hno : NAt w g p vl vr h) (hg : g < B) (ho : Own eP w B sv ps) (hB : B ≤ w.heap.size) (hn : ps1.length ≤ 1000000)
  (cl : ∀ W, Below B w W → Own eP W B sv ps → Calls Tryz.prog 104 #[vl, sv] W (BPost W B sv ps1))
  (cr : ∀ W sv2, Below B w W → Own eP W B sv2 (ps1 ++ [p]) → Calls Tryz.prog 104 #[vr, sv2] W (BPost W B sv2 ps3)) :
  Calls Tryz.prog 104 #[ptr g, sv] w (BPost w B sv ps3) := by
 have c0 := hno.c0; have c1 := hno.c1; have c2 := hno.c2
 have HS := Lib.hid (fun W (hb : Below B w W) => And.intro (hno.keep hb hg).c0 (And.intro (hno.keep hb hg).c1 (hno.keep hb hg).c2))
 have CL := Lib.hid cl; have CR := Lib.hid cr; have HO := Lib.hid ho
 have X0 := Lib.hid (Three.start ho).drew
 have Z0 := Lib.hid ((X0.out.below ho hB))
 have XA := Lib.hid ((Three.start ho).alloc (litP p)).drew
 have ZA := Lib.hid ((XA.out.below ho hB))
 have lg : g < w.heap.size := by omega
 have ng : ¬ g = w.heap.size := by omega
 clear hno cl cr ho
 go_enter Tryz.func104, Tryz.ntmps104
 go_wp2_with fail
 go_region_held3 (fun w' => (w'.cell? ⟨g, 0, none⟩ = some (ptr p) ∧ w'.cell? ⟨g, 1, none⟩ = some vl ∧ w'.cell? ⟨g, 2, none⟩ = some vr))
  (first | exact HS.out _ Z0.out | exact HS.out _ Z1.out | exact HS.out _ Z2.out | exact HS.out _ Z3.out | exact HS.out _ ZA.out | exact HS.out _ (Z1.out.alloc LB1 _) | fail)
  (first
   | (go_at_call 104; (with_reducible refine (CL.out _ Z0.out X0.out.own).mono ?_); rintro e w1 ⟨sv1, rfl, o1, c1, l1⟩; have X1 := Lib.hid (X0.out.step o1 c1 l1); have Z1 := Lib.hid (X1.out.below HO.out hB); have LB1 := Nat.le_trans hB Z1.out.size; clear o1 c1 l1)
   | (go_at_call 104; (with_reducible refine (CL.out _ ZA.out XA.out.own).mono ?_); rintro e w1 ⟨sv1, rfl, o1, c1, l1⟩; have A1 := Lib.hid (((At.new w 135 #[ptr p]).drew).chg c1 (fun e => absurd (HO.out.lt e).2 (Nat.lt_irrefl _))); have X1 := Lib.hid (XA.out.step o1 c1 l1); have Z1 := Lib.hid (X1.out.below HO.out hB); have LB1 := Nat.le_trans hB Z1.out.size; clear o1 c1 l1)
   | (obtain ⟨sv2, w2, r2, o2, k2, l2⟩ := (X1.out.alloc (litP p)).own.push (x := p) (b := w1.heap.size) (off := 0) (cap := 1) (by simp; omega) (lit_cell (At.new w1 135 #[ptr p])) hn 138; refine step_append_run (by rfl) (.tmp 17) (.tmp 22) 138 138 (by rfl) _ _ (by rfl) (by rfl) sv2 w2 r2 ?_; have X2 := Lib.hid ((X1.out.alloc (litP p)).step o2 k2 l2); have Z2 := Lib.hid (X2.out.below HO.out hB); clear r2 o2 k2 l2)
   | (obtain ⟨sv2, w2, r2, o2, k2, l2⟩ := X1.out.own.push (x := p) (b := w.heap.size) (off := 0) (cap := 1) LB1 (lit_cell A1.out) hn 138; refine step_append_run (by rfl) (.tmp 17) (.tmp 22) 138 138 (by rfl) _ _ (by rfl) (by rfl) sv2 w2 r2 ?_; have X2 := Lib.hid (X1.out.step o2 k2 l2); have Z2 := Lib.hid (X2.out.below HO.out hB); clear r2 o2 k2 l2)
   | (go_at_call 104; (with_reducible refine (CR.out _ _ Z2.out X2.out.own).mono ?_); rintro e w3 ⟨sv3, rfl, o3, c3, l3⟩; have X3 := Lib.hid (X2.out.step o3 c3 l3); have Z3 := Lib.hid (X3.out.below HO.out hB); clear o3 c3 l3)
   | fail)
 all_goals go_wp2_with fail
 all_goals go_ret
 all_goals exact ⟨sv3, rfl, X3.out.own, X3.out.chg, X3.out.lies⟩
end
end Go.Proofs.YtplapoenhohliaaGreat.Sh
namespace Go.Proofs.YtplapoenhohliaaGreat.Sh
open Go.RowKit Go.Lib Plain
set_option linter.unusedVariables false
section
variable {w W : World} {B : Nat} {v vl vr sv : Value} {t tl tr : T} {ps : List Nat}
theorem behind_any : ∀ {t : T} {w : World} {v sv : Value} {ps : List Nat}, TAt w B v t → Own eP w B sv ps → B ≤ w.heap.size → ps.length + t.its.length ≤ 1000000 → Calls Tryz.prog 104 #[v, sv] w (BPost w B sv (ps ++ t.its.map (·.1)))
 | .nil, w, v, sv, ps, h, ho, _, _ => by
  have e : v = .pointer none := h
  subst e
  have := behind_nil ho
  simpa [T.its] using this
 | .node l p x r, w, v, sv, ps, h, ho, hB, hn => by
  obtain ⟨g, vl, vr, rfl, hg, hp, hno, hx, hl, hr⟩ := h
  simp only [T.its, List.length_append, List.length_cons] at hn
  have e : ps ++ (T.node l p x r).its.map (·.1) = (ps ++ l.its.map (·.1) ++ [p]) ++ r.its.map (·.1) := by simp [T.its]
  rw [e]
  refine behind_node hno hg ho hB (ps1 := ps ++ l.its.map (·.1)) (by simp; omega) (fun W hb ho' => ?_) (fun W sv2 hb ho2 => ?_)
  ·exact behind_any (hl.keep hb (Nat.le_refl _)) ho' (Nat.le_trans hB hb.size) (by omega)
  ·exact behind_any (hr.keep hb (Nat.le_refl _)) ho2 (Nat.le_trans hB hb.size) (by simp; omega)
def PPost (w : World) (ps : List Nat) (e : Ending) (w' : World) : Prop := ∃ sv, e = .returned sv ∧ Own eP w' w.heap.size sv ps ∧ Below w.heap.size w w'
set_option maxRecDepth 100000 in
set_option maxHeartbeats 1600000 in
theorem pairs_run {o : Option Addr} {n room : Int} {M : Array Value} {ps : List Nat} {N : Nat} (hn : n = (N : Int))
  (hmk : ∀ W : World, (Instr.makeSlice 138 (.int .i64 0) (.int .i64 (N : Int))).run Tryz.prog W = .ok (.slice (some ⟨W.heap.size, 0, none⟩) 0 N) (W.alloc (.cells M 135)))
  (cb : ∀ W, W = ((w.alloc (.cells #[.pointer o, .int .i64 (N : Int), .int .i64 room] 34)).drew.alloc (.cells M 135)) → Calls Tryz.prog 104 #[.pointer o, .slice (some ⟨w.heap.size + 1, 0, none⟩) 0 N] W fun e w' => ∃ sv, e = .returned sv ∧ Own eP w' w.heap.size sv ps ∧ Below w.heap.size w w' ∧ At w' w.heap.size 34 #[.pointer o, .int .i64 (N : Int), .int .i64 room]) :
  Calls Tryz.prog 89 #[.agg #[.pointer o, .int .i64 n, .int .i64 room]] w (PPost w ps) := by
 subst hn
 have CB := Lib.hid cb
 clear cb
 go_enter Tryz.func89, Tryz.ntmps89
 go_wp2_with fail
 go_region_held3 (fun w' => (w'.cell? ⟨w.heap.size, 0, none⟩ = some (.pointer o) ∧ w'.cell? ⟨w.heap.size, 1, none⟩ = some (.int .i64 (N : Int))))
  (first | go_keep | exact ⟨A1.cell 0, A1.cell 1⟩ | fail)
  (first
   | (go_at_call 104; (refine (CB.out _ rfl).mono ?_); rintro e w1 ⟨sv1, rfl, o1, b1, A1⟩)
   | fail)
 all_goals go_wp2_with fail
 all_goals go_ret
 all_goals exact ⟨sv1, rfl, o1, b1⟩
theorem pairs_any {room : Int} (h : TAt w w.heap.size v t) (hn : t.kvs.length ≤ 70000) : Calls Tryz.prog 89 #[.agg #[v, .int .i64 (t.kvs.length : Int), .int .i64 room]] w (PPost w (t.its.map (·.1))) := by
 obtain ⟨M, hmk, hown⟩ := made eP t.kvs.length (by omega)
 obtain ⟨o, rfl⟩ := h.ptr
 refine pairs_run rfl hmk (fun W hW => ?_)
 have hb1 : Below w.heap.size w (w.alloc (.cells #[.pointer o, .int .i64 (t.kvs.length : Int), .int .i64 room] 34)).drew := ((Below.refl _ _).alloc (Nat.le_refl _) _).drew
 have hb2 : Below w.heap.size w W := by subst hW; exact hb1.alloc (by simp) _
 have hs : W.heap.size = w.heap.size + 2 := by subst hW; simp
 have hbox : At W w.heap.size 34 #[.pointer o, .int .i64 (t.kvs.length : Int), .int .i64 room] := by
  subst hW; exact ((At.new w 34 _).drew).alloc _
 have hW' : W.heap.size = w.heap.size + 2 := hs
 have ho : Own eP W (w.heap.size + 1) (.slice (some ⟨w.heap.size + 1, 0, none⟩) 0 t.kvs.length) [] := by
  subst hW
  have := hown (w.alloc (.cells #[.pointer o, .int .i64 (t.kvs.length : Int), .int .i64 room] 34)).drew (w.heap.size + 1) (by simp)
  have e : (w.alloc (.cells #[.pointer o, .int .i64 (t.kvs.length : Int), .int .i64 room] 34)).drew.heap.size = w.heap.size + 1 := by simp
  rw [e] at this
  exact this
 have hl := t.kvs_length
 refine (behind_any (B := w.heap.size + 1) ((h.keep hb2 (Nat.le_refl _)).mono (by omega)) ho (by omega) (by simp; omega)).mono ?_
 rintro e w' ⟨sv, rfl, o1, c1, l1⟩
 rw [List.nil_append] at o1
 have hbb : Below (w.heap.size + 1) W w' := c1.below' ho (by omega)
 exact ⟨sv, rfl, o1.mono (by omega), hb2.trans (hbb.mono (by omega)), hbox.below hbb (by omega)⟩
end
end Go.Proofs.YtplapoenhohliaaGreat.Sh
namespace Go.Proofs.YtplapoenhohliaaGreat.Sh
open Go.RowKit Go.Lib Plain
set_option linter.unusedVariables false
section
variable {α : Type} {E : El α} {w w' : World} {B : Nat} {v : Value} {xs : List α}
end
section
variable {w W : World} {B : Nat} {v vl vr sv : Value} {t tl tr : T} {ps : List Nat}
theorem Rd.cellP {O : Option Addr} {n cap i : Nat} (h : Rd eP w (.slice O n cap) ps) {p : Nat} (hp : ps[i]? = some p) : ∃ b off, O = some ⟨b, off, none⟩ ∧ b < w.heap.size ∧ w.cell? ⟨b, off + i, none⟩ = some (ptr p) := by
 obtain ⟨O', cap', hv, hc, h⟩ := h
 injection hv with e1 e2 e3
 subst e1
 obtain ⟨b, off, rfl, hb, k⟩ := h i p hp
 refine ⟨b, off, rfl, hb, ?_⟩
 have := k 0 (ptr p) rfl
 have e : eP.s = 1 := rfl
 rw [e, Nat.mul_one, Nat.add_zero] at this
 exact this
end
end Go.Proofs.YtplapoenhohliaaGreat.Sh
