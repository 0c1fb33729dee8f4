/- The contracts of behind and pairs. -/
import Derived.Test.YtodacdooooeofaaTrF
import Derived.Test.YtodacdooooeofaaRw
namespace Go.Proofs.Ytodacdooooeofaa.Sh
open Go.RowKit Go.Lib Plain
set_option linter.unusedVariables false

/-- an append whose run is known, as one step of a region that draws -/
theorem step_append_run {P : Program} {ops : Array Oper} {o : Oper} {a : Go.Act} {w : World} {K : Go.Act → World → Prop} {Q : Exit → Go.Act → World → Prop} {E : Prop} (hgd : o.guard = none) (s x : Operand) (t tn : TypeId)
    (ho : o.op = .call { callee := .builtin .append, args := #[s, x], argTypes := #[t, tn] }) (vs vx : Value) (hs : a.eval s = vs) (hx : a.eval x = vx) (v' : Value) (w' : World) (hr : (Builtin.append_ #[t, tn] o.type #[vs, vx]).run P w = .ok v' w')
    (h : K (a.put o.dst v') w') : if Region.wanted o (yielded ops a.tmps) = true then Oper.wp P o a w K Q else E := by
  have hw : Region.wanted o (yielded ops a.tmps) = true := by simp [Region.wanted, hgd]
  rw [if_pos hw]
  unfold Oper.wp execOp
  simp only [ho, resolve, invoke, builtin, Sem.run_bind, Sem.run_pure, Result.andThen_ok, List.map_toArray, List.map_cons, List.map_nil, hs, hx, hr]
  exact h
section
variable {w W : World} {B : Nat} {v vl vr sv : Value} {t tl tr : T} {ps : List Nat}
/-- what behind answers -/
def BPost (w : World) (B : Nat) (sv : Value) (ps : List Nat) (e : Ending) (w' : World) : Prop := ∃ sv', e = .returned sv' ∧ Own eP w' B sv' ps ∧ Chg w w' (fun k => sv.ownBlock = some k) ∧ Lies w sv sv'
set_option maxRecDepth 100000 in
set_option maxHeartbeats 1600000 in
theorem behind_nil (h : Own eP w B sv ps) : Calls Try.prog 73 #[.pointer none, sv] w (BPost w B sv ps) := by
  have H := Lib.hid h; clear h
  go_enter Try.func73, Try.ntmps73
  go_wp2
  go_ret
  exact ⟨sv, rfl, H.out, Chg.refl _ _, Lies.refl _ _⟩
/-- the literal of one pointer -/
abbrev litP (p : Nat) : Obj := .cells #[ptr p] 90
theorem lit_cell {p g : Nat} (h : At w g 90 #[ptr p]) : ∀ j u, (eP.enc p)[j]? = some u → w.cell? ⟨g, 0 + j, none⟩ = some u := by
  intro j u hu
  rw [h.cell]
  have : (eP.enc p) = [ptr p] := rfl
  rw [this] at hu
  cases j with
  | zero => simpa using hu
  | succ j => simp at hu
/-- left, one more, right: what the three steps come to -/
structure Three (w : World) (B : Nat) (sv : Value) (W : World) (sv' : Value) (ps : List Nat) : Prop where
  own : Own eP W B sv' ps
  chg : Chg w W (fun k => sv.ownBlock = some k)
  lies : Lies w sv sv'
theorem Three.step {W W' : World} {sv1 sv2 : Value} {ps1 ps2 : List Nat} (h : Three w B sv W sv1 ps1) (ho : Own eP W' B sv2 ps2) (hc : Chg W W' (fun k => sv1.ownBlock = some k)) (hl : Lies W sv1 sv2) : Three w B sv W' sv2 ps2 :=
  ⟨ho, h.chg.trans hc (fun i hi e => h.lies.old e hi), h.lies.trans hl h.chg.size⟩
theorem Three.alloc {sv1 : Value} {ps1 : List Nat} (h : Three w B sv W sv1 ps1) (o : Obj) : Three w B sv (W.alloc o) sv1 ps1 :=
  ⟨h.own.below ((Below.refl _ _).alloc (Nat.le_refl _) _), h.chg.alloc o, h.lies⟩
theorem Three.start (h : Own eP w B sv ps) : Three w B sv w sv ps := ⟨h, Chg.refl _ _, Lies.refl _ _⟩
theorem Three.drew {sv1 : Value} {ps1 : List Nat} (h : Three w B sv W sv1 ps1) : Three w B sv W.drew sv1 ps1 := ⟨h.own, h.chg.drew, h.lies⟩
theorem Three.below {sv1 : Value} {ps1 : List Nat} (h : Three w B sv W sv1 ps1) (ho : Own eP w B sv ps) (hB : B ≤ w.heap.size) : Below B w W := h.chg.below' ho hB
set_option maxRecDepth 100000 in
set_option maxHeartbeats 1600000 in
theorem behind_node {g p : Nat} {h : Nat} {ps1 ps3 : List Nat} (hno : NAt w g p vl vr h) (hg : g < B) (ho : Own eP w B sv ps) (hB : B ≤ w.heap.size) (hn : ps1.length ≤ 1000000)
    (cl : ∀ W, Below B w W → Own eP W B sv ps → Calls Try.prog 73 #[vl, sv] W (BPost W B sv ps1))
    (cr : ∀ W sv2, Below B w W → Own eP W B sv2 (ps1 ++ [p]) → Calls Try.prog 73 #[vr, sv2] W (BPost W B sv2 ps3)) :
    Calls Try.prog 73 #[ptr g, sv] w (BPost w B sv ps3) := by
  have c0 := hno.c0; have c1 := hno.c1; have c2 := hno.c2
  have HS := Lib.hid (fun W (hb : Below B w W) => And.intro (hno.keep hb hg).c0 (And.intro (hno.keep hb hg).c1 (hno.keep hb hg).c2))
  have CL := Lib.hid cl; have CR := Lib.hid cr; have HO := Lib.hid ho
  have X0 := Lib.hid (Three.start ho).drew
  have Z0 := Lib.hid ((X0.out.below ho hB))
  have XA := Lib.hid ((Three.start ho).alloc (litP p)).drew
  have ZA := Lib.hid ((XA.out.below ho hB))
  have lg : g < w.heap.size := by omega
  have ng : ¬ g = w.heap.size := by omega
  clear hno cl cr ho
  go_enter Try.func73, Try.ntmps73
  go_wp2_with fail
  go_region_held3 (fun w' => (w'.cell? ⟨g, 0, none⟩ = some (ptr p) ∧ w'.cell? ⟨g, 1, none⟩ = some vl ∧ w'.cell? ⟨g, 2, none⟩ = some vr))
    (first | exact HS.out _ Z0.out | exact HS.out _ Z1.out | exact HS.out _ Z2.out | exact HS.out _ Z3.out | exact HS.out _ ZA.out | exact HS.out _ (Z1.out.alloc LB1 _) | fail)
    (first
      | (go_at_call 73; (with_reducible refine (CL.out _ Z0.out X0.out.own).mono ?_); rintro e w1 ⟨sv1, rfl, o1, c1, l1⟩; have X1 := Lib.hid (X0.out.step o1 c1 l1); have Z1 := Lib.hid (X1.out.below HO.out hB); have LB1 := Nat.le_trans hB Z1.out.size; clear o1 c1 l1)
      | (go_at_call 73; (with_reducible refine (CL.out _ ZA.out XA.out.own).mono ?_); rintro e w1 ⟨sv1, rfl, o1, c1, l1⟩; have A1 := Lib.hid (((At.new w 90 #[ptr p]).drew).chg c1 (fun e => absurd (HO.out.lt e).2 (Nat.lt_irrefl _))); have X1 := Lib.hid (XA.out.step o1 c1 l1); have Z1 := Lib.hid (X1.out.below HO.out hB); have LB1 := Nat.le_trans hB Z1.out.size; clear o1 c1 l1)
      | (obtain ⟨sv2, w2, r2, o2, k2, l2⟩ := (X1.out.alloc (litP p)).own.push (x := p) (b := w1.heap.size) (off := 0) (cap := 1) (by simp; omega) (lit_cell (At.new w1 90 #[ptr p])) hn 89; refine step_append_run (by rfl) (.tmp 17) (.tmp 22) 89 89 (by rfl) _ _ (by rfl) (by rfl) sv2 w2 r2 ?_; have X2 := Lib.hid ((X1.out.alloc (litP p)).step o2 k2 l2); have Z2 := Lib.hid (X2.out.below HO.out hB); clear r2 o2 k2 l2)
      | (obtain ⟨sv2, w2, r2, o2, k2, l2⟩ := X1.out.own.push (x := p) (b := w.heap.size) (off := 0) (cap := 1) LB1 (lit_cell A1.out) hn 89; refine step_append_run (by rfl) (.tmp 17) (.tmp 22) 89 89 (by rfl) _ _ (by rfl) (by rfl) sv2 w2 r2 ?_; have X2 := Lib.hid (X1.out.step o2 k2 l2); have Z2 := Lib.hid (X2.out.below HO.out hB); clear r2 o2 k2 l2)
      | (go_at_call 73; (with_reducible refine (CR.out _ _ Z2.out X2.out.own).mono ?_); rintro e w3 ⟨sv3, rfl, o3, c3, l3⟩; have X3 := Lib.hid (X2.out.step o3 c3 l3); have Z3 := Lib.hid (X3.out.below HO.out hB); clear o3 c3 l3)
      | fail)
  all_goals go_wp2_with fail
  all_goals go_ret
  all_goals exact ⟨sv3, rfl, X3.out.own, X3.out.chg, X3.out.lies⟩
end
end Go.Proofs.Ytodacdooooeofaa.Sh
/- The contracts of behind, pairs and planted. -/
namespace Go.Proofs.Ytodacdooooeofaa.Sh
open Go.RowKit Go.Lib Plain
set_option linter.unusedVariables false

section
variable {w W : World} {B : Nat} {v vl vr sv : Value} {t tl tr : T} {ps : List Nat}
/-- behind: these pairs, and those of the tree behind them -/
theorem behind_any : ∀ {t : T} {w : World} {v sv : Value} {ps : List Nat}, TAt w B v t → Own eP w B sv ps → B ≤ w.heap.size → ps.length + t.its.length ≤ 1000000 → Calls Try.prog 73 #[v, sv] w (BPost w B sv (ps ++ t.its.map (·.1)))
  | .nil, w, v, sv, ps, h, ho, _, _ => by
    have e : v = .pointer none := h
    subst e
    have := behind_nil ho
    simpa [T.its] using this
  | .node l p x r, w, v, sv, ps, h, ho, hB, hn => by
    obtain ⟨g, vl, vr, rfl, hg, hp, hno, hx, hl, hr⟩ := h
    simp only [T.its, List.length_append, List.length_cons] at hn
    have e : ps ++ (T.node l p x r).its.map (·.1) = (ps ++ l.its.map (·.1) ++ [p]) ++ r.its.map (·.1) := by simp [T.its]
    rw [e]
    refine behind_node hno hg ho hB (ps1 := ps ++ l.its.map (·.1)) (by simp; omega) (fun W hb ho' => ?_) (fun W sv2 hb ho2 => ?_)
    · exact behind_any (hl.keep hb (Nat.le_refl _)) ho' (Nat.le_trans hB hb.size) (by omega)
    · exact behind_any (hr.keep hb (Nat.le_refl _)) ho2 (Nat.le_trans hB hb.size) (by simp; omega)
/-- what pairs answers -/
def PPost (w : World) (ps : List Nat) (e : Ending) (w' : World) : Prop := ∃ sv, e = .returned sv ∧ Own eP w' w.heap.size sv ps ∧ Below w.heap.size w w'
set_option maxRecDepth 100000 in
set_option maxHeartbeats 1600000 in
theorem pairs_run {o : Option Addr} {n room : Int} {M : Array Value} {ps : List Nat} {N : Nat} (hn : n = (N : Int))
    (hmk : ∀ W : World, (Instr.makeSlice 89 (.int .i64 0) (.int .i64 (N : Int))).run Try.prog W = .ok (.slice (some ⟨W.heap.size, 0, none⟩) 0 N) (W.alloc (.cells M 90)))
    (cb : ∀ W, W = ((w.alloc (.cells #[.pointer o, .int .i64 (N : Int), .int .i64 room] 29)).drew.alloc (.cells M 90)) → Calls Try.prog 73 #[.pointer o, .slice (some ⟨w.heap.size + 1, 0, none⟩) 0 N] W fun e w' => ∃ sv, e = .returned sv ∧ Own eP w' w.heap.size sv ps ∧ Below w.heap.size w w' ∧ At w' w.heap.size 29 #[.pointer o, .int .i64 (N : Int), .int .i64 room]) :
    Calls Try.prog 48 #[.agg #[.pointer o, .int .i64 n, .int .i64 room]] w (PPost w ps) := by
  subst hn
  have CB := Lib.hid cb
  clear cb
  go_enter Try.func48, Try.ntmps48
  go_wp2_with fail
  go_region_held3 (fun w' => (w'.cell? ⟨w.heap.size, 0, none⟩ = some (.pointer o) ∧ w'.cell? ⟨w.heap.size, 1, none⟩ = some (.int .i64 (N : Int))))
    (first | go_keep | exact ⟨A1.cell 0, A1.cell 1⟩ | fail)
    (first
      | (go_at_call 73; (refine (CB.out _ rfl).mono ?_); rintro e w1 ⟨sv1, rfl, o1, b1, A1⟩)
      | fail)
  all_goals go_wp2_with fail
  all_goals go_ret
  all_goals exact ⟨sv1, rfl, o1, b1⟩
/-- pairs: all pairs -/
theorem pairs_any {room : Int} (h : TAt w w.heap.size v t) (hn : t.kvs.length ≤ 70000) : Calls Try.prog 48 #[.agg #[v, .int .i64 (t.kvs.length : Int), .int .i64 room]] w (PPost w (t.its.map (·.1))) := by
  obtain ⟨M, hmk, hown⟩ := made eP t.kvs.length (by omega)
  obtain ⟨o, rfl⟩ := h.ptr
  refine pairs_run rfl hmk (fun W hW => ?_)
  have hb1 : Below w.heap.size w (w.alloc (.cells #[.pointer o, .int .i64 (t.kvs.length : Int), .int .i64 room] 29)).drew := ((Below.refl _ _).alloc (Nat.le_refl _) _).drew
  have hb2 : Below w.heap.size w W := by subst hW; exact hb1.alloc (by simp) _
  have hs : W.heap.size = w.heap.size + 2 := by subst hW; simp
  have hbox : At W w.heap.size 29 #[.pointer o, .int .i64 (t.kvs.length : Int), .int .i64 room] := by
    subst hW; exact ((At.new w 29 _).drew).alloc _
  have hW' : W.heap.size = w.heap.size + 2 := hs
  have ho : Own eP W (w.heap.size + 1) (.slice (some ⟨w.heap.size + 1, 0, none⟩) 0 t.kvs.length) [] := by
    subst hW
    have := hown (w.alloc (.cells #[.pointer o, .int .i64 (t.kvs.length : Int), .int .i64 room] 29)).drew (w.heap.size + 1) (by simp)
    have e : (w.alloc (.cells #[.pointer o, .int .i64 (t.kvs.length : Int), .int .i64 room] 29)).drew.heap.size = w.heap.size + 1 := by simp
    rw [e] at this
    exact this
  have hl := t.kvs_length
  refine (behind_any (B := w.heap.size + 1) ((h.keep hb2 (Nat.le_refl _)).mono (by omega)) ho (by omega) (by simp; omega)).mono ?_
  rintro e w' ⟨sv, rfl, o1, c1, l1⟩
  rw [List.nil_append] at o1
  have hbb : Below (w.heap.size + 1) W w' := c1.below' ho (by omega)
  exact ⟨sv, rfl, o1.mono (by omega), hb2.trans (hbb.mono (by omega)), hbox.below hbb (by omega)⟩
end
end Go.Proofs.Ytodacdooooeofaa.Sh
/- Slices of rows. -/
namespace Go.Proofs.Ytodacdooooeofaa.Sh
open Go.RowKit Go.Lib Plain
set_option linter.unusedVariables false

section
variable {α : Type} {E : El α} {w w' : World} {B : Nat} {v : Value} {xs : List α}
/-- 'l[:m]' -/
theorem slice_take (E : El α) (O : Option Addr) (n cap m : Nat) (hm : m ≤ cap) : ∃ O1 c1, (∀ W : World, (Instr.slice E.ts (.slice O n cap) none (some (.int .i64 (m : Int))) none).run Try.prog W = .ok (.slice O1 m c1) W) ∧ ∀ (W : World) (xs : List α), Rd E W (.slice O n cap) xs → m ≤ xs.length → Rd E W (.slice O1 m c1) (xs.take m) := by
  have ht' : Try.prog.underlying E.ts = some (.slice (Try.prog.elem E.ts)) := by simp [Program.elem, E.hts]
  have he : Try.prog.elem E.ts = E.e := by simp [Program.elem, E.hts]
  obtain ⟨i, hi, hz, hs, hb⟩ := E.info
  refine ⟨O, cap, fun W => ?_, fun W xs h hx => ?_⟩
  · rw [run_slice_h W E.ts _ _ _ ht' .i64 m (by omega) (by omega), he]
    simp [Result.andThen, sliced, sizeOf, typeInfo, hi]
    cases O <;> simp [Addr.add]
  · obtain ⟨O', cap', hv, hc, h⟩ := h
    injection hv with e1 e2 e3
    subst e1; subst e3
    refine ⟨O, cap, by rw [List.length_take, Nat.min_eq_left hx], by rw [List.length_take]; omega, fun i x hxx => ?_⟩
    rw [List.getElem?_take] at hxx
    split at hxx
    · exact h i x hxx
    · cases hxx
set_option maxRecDepth 100000 in
/-- 'l[m:]' -/
theorem slice_drop (E : El α) (O : Option Addr) (n cap m : Nat) (hm : m ≤ n) : ∃ O1 c1, (∀ W : World, (Instr.slice E.ts (.slice O n cap) (some (.int .i64 (m : Int))) none none).run Try.prog W = .ok (.slice O1 (n - m) c1) W) ∧ ∀ (W : World) (xs : List α), Rd E W (.slice O n cap) xs → Rd E W (.slice O1 (n - m) c1) (xs.drop m) := by
  have ht' : Try.prog.underlying E.ts = some (.slice (Try.prog.elem E.ts)) := by simp [Program.elem, E.hts]
  have he : Try.prog.elem E.ts = E.e := by simp [Program.elem, E.hts]
  obtain ⟨i, hi, hz, hs, hb⟩ := E.info
  refine ⟨if cap = m then O else O.map (·.add (m * E.s)), cap - m, fun W => ?_, fun W xs h => ?_⟩
  · rw [run_slice_l W E.ts _ _ _ ht' .i64 m (by omega) (by omega), he]
    simp [Result.andThen, sliced, sizeOf, typeInfo, hi, hs]
  · obtain ⟨O', cap', hv, hc, h⟩ := h
    injection hv with e1 e2 e3
    subst e1; subst e3
    refine ⟨_, _, by rw [List.length_drop, e2], by rw [List.length_drop]; omega, fun i x hxx => ?_⟩
    rw [List.getElem?_drop] at hxx
    have hlt := (List.getElem?_eq_some_iff.1 hxx).1
    obtain ⟨b, off, rfl, hb, k⟩ := h _ x hxx
    rw [if_neg (by omega)]
    refine ⟨b, off + m * E.s, by simp [add_at], hb, fun j u hu => ?_⟩
    rw [← k j u hu, Nat.add_mul]
    congr 2
    omega
end
section
variable {w W : World} {B : Nat} {v vl vr sv : Value} {t tl tr : T} {ps : List Nat}
theorem Rd.cellP {O : Option Addr} {n cap i : Nat} (h : Rd eP w (.slice O n cap) ps) {p : Nat} (hp : ps[i]? = some p) : ∃ b off, O = some ⟨b, off, none⟩ ∧ b < w.heap.size ∧ w.cell? ⟨b, off + i, none⟩ = some (ptr p) := by
  obtain ⟨O', cap', hv, hc, h⟩ := h
  injection hv with e1 e2 e3
  subst e1
  obtain ⟨b, off, rfl, hb, k⟩ := h i p hp
  refine ⟨b, off, rfl, hb, ?_⟩
  have := k 0 (ptr p) rfl
  have e : eP.s = 1 := rfl
  rw [e, Nat.mul_one, Nat.add_zero] at this
  exact this
theorem Rd.len {α : Type} {E : El α} {O : Option Addr} {n cap : Nat} {xs : List α} (h : Rd E w (.slice O n cap) xs) : n = xs.length ∧ n ≤ cap := by
  obtain ⟨O', cap', hv, hc, h⟩ := h
  injection hv with e1 e2 e3
  omega
end
end Go.Proofs.Ytodacdooooeofaa.Sh
