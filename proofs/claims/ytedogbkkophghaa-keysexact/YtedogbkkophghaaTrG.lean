/- The contracts of behind and pairs. -/
import Derived.Test.YtedogbkkophghaaTrE
import Derived.Test.YtedogbkkophghaaRw
namespace Go.Proofs.Ytedogbkkophghaa.Sh
open Go.RowKit Go.Lib Plain
set_option linter.unusedVariables false

/-- an append whose run is known, as one step of a region that draws -/
theorem step_append_run {P : Program} {ops : Array Oper} {o : Oper} {a : Go.Act} {w : World} {K : Go.Act → World → Prop} {Q : Exit → Go.Act → World → Prop} {E : Prop} (hgd : o.guard = none) (s x : Operand) (t tn : TypeId)
    (ho : o.op = .call { callee := .builtin .append, args := #[s, x], argTypes := #[t, tn] }) (vs vx : Value) (hs : a.eval s = vs) (hx : a.eval x = vx) (v' : Value) (w' : World) (hr : (Builtin.append_ #[t, tn] o.type #[vs, vx]).run P w = .ok v' w')
    (h : K (a.put o.dst v') w') : if Region.wanted o (yielded ops a.tmps) = true then Oper.wp P o a w K Q else E := by
  have hw : Region.wanted o (yielded ops a.tmps) = true := by simp [Region.wanted, hgd]
  rw [if_pos hw]
  unfold Oper.wp execOp
  simp only [ho, resolve, invoke, builtin, Sem.run_bind, Sem.run_pure, Result.andThen_ok, List.map_toArray, List.map_cons, List.map_nil, hs, hx, hr]
  exact h
section
variable {w W : World} {B : Nat} {v vl vr sv : Value} {t tl tr : T} {ps : List Nat}
/-- what behind answers -/
def BPost (w : World) (B : Nat) (sv : Value) (ps : List Nat) (e : Ending) (w' : World) : Prop := ∃ sv', e = .returned sv' ∧ Own eP w' B sv' ps ∧ Chg w w' (fun k => sv.ownBlock = some k) ∧ Lies w sv sv'
set_option maxRecDepth 100000 in
set_option maxHeartbeats 1600000 in
theorem behind_nil (h : Own eP w B sv ps) : Calls Try.prog 71 #[.pointer none, sv] w (BPost w B sv ps) := by
  have H := Lib.hid h; clear h
  go_enter Try.func71, Try.ntmps71
  go_wp2
  go_ret
  exact ⟨sv, rfl, H.out, Chg.refl _ _, Lies.refl _ _⟩
/-- the literal of one pointer -/
abbrev litP (p : Nat) : Obj := .cells #[ptr p] 91
theorem lit_cell {p g : Nat} (h : At w g 91 #[ptr p]) : ∀ j u, (eP.enc p)[j]? = some u → w.cell? ⟨g, 0 + j, none⟩ = some u := by
  intro j u hu
  rw [h.cell]
  have : (eP.enc p) = [ptr p] := rfl
  rw [this] at hu
  cases j with
  | zero => simpa using hu
  | succ j => simp at hu
/-- left, one more, right: what the three steps come to -/
structure Three (w : World) (B : Nat) (sv : Value) (W : World) (sv' : Value) (ps : List Nat) : Prop where
  own : Own eP W B sv' ps
  chg : Chg w W (fun k => sv.ownBlock = some k)
  lies : Lies w sv sv'
theorem Three.step {W W' : World} {sv1 sv2 : Value} {ps1 ps2 : List Nat} (h : Three w B sv W sv1 ps1) (ho : Own eP W' B sv2 ps2) (hc : Chg W W' (fun k => sv1.ownBlock = some k)) (hl : Lies W sv1 sv2) : Three w B sv W' sv2 ps2 :=
  ⟨ho, h.chg.trans hc (fun i hi e => h.lies.old e hi), h.lies.trans hl h.chg.size⟩
theorem Three.alloc {sv1 : Value} {ps1 : List Nat} (h : Three w B sv W sv1 ps1) (o : Obj) : Three w B sv (W.alloc o) sv1 ps1 :=
  ⟨h.own.below ((Below.refl _ _).alloc (Nat.le_refl _) _), h.chg.alloc o, h.lies⟩
theorem Three.start (h : Own eP w B sv ps) : Three w B sv w sv ps := ⟨h, Chg.refl _ _, Lies.refl _ _⟩
theorem Three.drew {sv1 : Value} {ps1 : List Nat} (h : Three w B sv W sv1 ps1) : Three w B sv W.drew sv1 ps1 := ⟨h.own, h.chg.drew, h.lies⟩
theorem Three.below {sv1 : Value} {ps1 : List Nat} (h : Three w B sv W sv1 ps1) (ho : Own eP w B sv ps) (hB : B ≤ w.heap.size) : Below B w W := h.chg.below' ho hB
set_option maxRecDepth 100000 in
set_option maxHeartbeats 1600000 in
theorem behind_node {g p : Nat} {h : Nat} {ps1 ps3 : List Nat} (hno : NAt w g p vl vr h) (hg : g < B) (ho : Own eP w B sv ps) (hB : B ≤ w.heap.size) (hn : ps1.length ≤ 1000000)
    (cl : ∀ W, Below B w W → Own eP W B sv ps → Calls Try.prog 71 #[vl, sv] W (BPost W B sv ps1))
    (cr : ∀ W sv2, Below B w W → Own eP W B sv2 (ps1 ++ [p]) → Calls Try.prog 71 #[vr, sv2] W (BPost W B sv2 ps3)) :
    Calls Try.prog 71 #[ptr g, sv] w (BPost w B sv ps3) := by
  have c0 := hno.c0; have c1 := hno.c1; have c2 := hno.c2
  have HS := Lib.hid (fun W (hb : Below B w W) => And.intro (hno.keep hb hg).c0 (And.intro (hno.keep hb hg).c1 (hno.keep hb hg).c2))
  have CL := Lib.hid cl; have CR := Lib.hid cr; have HO := Lib.hid ho
  have X0 := Lib.hid (Three.start ho).drew
  have Z0 := Lib.hid ((X0.out.below ho hB))
  have XA := Lib.hid ((Three.start ho).alloc (litP p)).drew
  have ZA := Lib.hid ((XA.out.below ho hB))
  have lg : g < w.heap.size := by omega
  have ng : ¬ g = w.heap.size := by omega
  clear hno cl cr ho
  go_enter Try.func71, Try.ntmps71
  go_wp2_with fail
  go_region_held3 (fun w' => (w'.cell? ⟨g, 0, none⟩ = some (ptr p) ∧ w'.cell? ⟨g, 1, none⟩ = some vl ∧ w'.cell? ⟨g, 2, none⟩ = some vr))
    (first | exact HS.out _ Z0.out | exact HS.out _ Z1.out | exact HS.out _ Z2.out | exact HS.out _ Z3.out | exact HS.out _ ZA.out | exact HS.out _ (Z1.out.alloc LB1 _) | fail)
    (first
      | (go_at_call 71; (with_reducible refine (CL.out _ Z0.out X0.out.own).mono ?_); rintro e w1 ⟨sv1, rfl, o1, c1, l1⟩; have X1 := Lib.hid (X0.out.step o1 c1 l1); have Z1 := Lib.hid (X1.out.below HO.out hB); have LB1 := Nat.le_trans hB Z1.out.size; clear o1 c1 l1)
      | (go_at_call 71; (with_reducible refine (CL.out _ ZA.out XA.out.own).mono ?_); rintro e w1 ⟨sv1, rfl, o1, c1, l1⟩; have A1 := Lib.hid (((At.new w 91 #[ptr p]).drew).chg c1 (fun e => absurd (HO.out.lt e).2 (Nat.lt_irrefl _))); have X1 := Lib.hid (XA.out.step o1 c1 l1); have Z1 := Lib.hid (X1.out.below HO.out hB); have LB1 := Nat.le_trans hB Z1.out.size; clear o1 c1 l1)
      | (obtain ⟨sv2, w2, r2, o2, k2, l2⟩ := (X1.out.alloc (litP p)).own.push (x := p) (b := w1.heap.size) (off := 0) (cap := 1) (by simp; omega) (lit_cell (At.new w1 91 #[ptr p])) hn 104; refine step_append_run (by rfl) (.tmp 17) (.tmp 22) 104 104 (by rfl) _ _ (by rfl) (by rfl) sv2 w2 r2 ?_; have X2 := Lib.hid ((X1.out.alloc (litP p)).step o2 k2 l2); have Z2 := Lib.hid (X2.out.below HO.out hB); clear r2 o2 k2 l2)
      | (obtain ⟨sv2, w2, r2, o2, k2, l2⟩ := X1.out.own.push (x := p) (b := w.heap.size) (off := 0) (cap := 1) LB1 (lit_cell A1.out) hn 104; refine step_append_run (by rfl) (.tmp 17) (.tmp 22) 104 104 (by rfl) _ _ (by rfl) (by rfl) sv2 w2 r2 ?_; have X2 := Lib.hid (X1.out.step o2 k2 l2); have Z2 := Lib.hid (X2.out.below HO.out hB); clear r2 o2 k2 l2)
      | (go_at_call 71; (with_reducible refine (CR.out _ _ Z2.out X2.out.own).mono ?_); rintro e w3 ⟨sv3, rfl, o3, c3, l3⟩; have X3 := Lib.hid (X2.out.step o3 c3 l3); have Z3 := Lib.hid (X3.out.below HO.out hB); clear o3 c3 l3)
      | fail)
  all_goals go_wp2_with fail
  all_goals go_ret
  all_goals exact ⟨sv3, rfl, X3.out.own, X3.out.chg, X3.out.lies⟩
end
end Go.Proofs.Ytedogbkkophghaa.Sh
