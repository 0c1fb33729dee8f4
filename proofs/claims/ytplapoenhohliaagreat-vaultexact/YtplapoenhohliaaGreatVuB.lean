import Derived.Test.YtplapoenhohliaaGreatVtO
import Derived.Test.YtplapoenhohliaaGreatRbJ
namespace Go.Proofs.YtplapoenhohliaaGreat
open Go.RowKit Go.Lib
set_option linter.unusedVariables false
set_option linter.unusedSimpArgs false
structure Yr where
 cs : Array Value
 sz : cs.size = 19
 one : cs.all (·.oneCell') = true
abbrev Yr.V (k : Yr) : Value := .agg k.cs
structure Uv where
 b : U
 s : Sl
 t : Sl
 k : Yr
 now : Int
 v : Value
def Uv.list (x : Uv) : List Value := (x.b.cells x.s x.t).toList ++ (x.k.cs.toList ++ [.int .i64 x.now, x.v])
def Uv.cells (x : Uv) : Array Value := x.list.toArray
abbrev Uv.V (x : Uv) : Value := .agg x.cells
theorem Uv.blen (x : Uv) : (x.b.cells x.s x.t).toList.length = 26 := by rw [Array.length_toList]; exact x.b.size x.s x.t
theorem Uv.klen (x : Uv) : x.k.cs.toList.length = 19 := by rw [Array.length_toList]; exact x.k.sz
theorem Uv.len (x : Uv) : x.list.length = 47 := by simp only [Uv.list, List.length_append, x.blen, x.klen, List.length_cons, List.length_nil]
theorem Uv.size (x : Uv) : x.cells.size = 47 := by simp [Uv.cells, x.len]
abbrev UvAt (w : World) (g : Nat) (x : Uv) : Prop := At w g 70 x.cells
abbrev YrAt (w : World) (g : Nat) (k : Yr) : Prop := At w g 68 k.cs
theorem size68 (k : Yr) : (Tryz.prog.info? 68).map (·.size) = some k.cs.size := by rw [k.sz]; kernel_rfl
theorem size68l (k : Yr) : (Tryz.prog.info? 68).map (·.size) = some k.cs.toList.length := by rw [Array.length_toList, k.sz]; kernel_rfl
theorem size65l (b : U) (s t : Sl) : (Tryz.prog.info? 65).map (·.size) = some (b.cells s t).toList.length := by rw [Array.length_toList, b.size]; kernel_rfl
theorem size65 (b : U) (s t : Sl) : (Tryz.prog.info? 65).map (·.size) = some (b.cells s t).size := by rw [b.size]; kernel_rfl
section
variable {w w' : World} {g off : Nat} {x : Uv}
theorem UvAt.bk (h : UvAt w g x) : w.rangeAt g 0 (x.b.cells x.s x.t).toList := (rng_app x.blen (rng_at h)).1
theorem UvAt.ky (h : UvAt w g x) : w.rangeAt g 26 x.k.cs.toList := by have := (rng_app x.klen (rng_app x.blen (rng_at h)).2).1; rwa [Nat.zero_add] at this
theorem UvAt.tl (h : UvAt w g x) : w.rangeAt g 45 [.int .i64 x.now, x.v] := by have := (rng_app x.klen (rng_app x.blen (rng_at h)).2).2; rwa [Nat.zero_add] at this
theorem UvAt.k45 (h : UvAt w g x) : w.cell? ⟨g, 45, none⟩ = some (.int .i64 x.now) := (rng_head (UvAt.tl h)).1
theorem UvAt.k46 (h : UvAt w g x) : w.cell? ⟨g, 46, none⟩ = some x.v := (rng_head (rng_head (UvAt.tl h)).2).1
theorem UvAt.k19 (h : UvAt w g x) : w.cell? ⟨g, 19, none⟩ = some (.int .i64 x.b.ix) := by have := UvAt.bk h 19 (.int .i64 x.b.ix) (by simpa using x.b.at19 x.s x.t); rwa [Nat.zero_add] at this
theorem UvAt.k20 (h : UvAt w g x) : w.cell? ⟨g, 20, none⟩ = some (x.s.v x.b.live.length) := by have := UvAt.bk h 20 (x.s.v x.b.live.length) (by simpa using x.b.at20 x.s x.t); rwa [Nat.zero_add] at this
theorem UvAt.setT (h : UvAt w g x) (n : Int) : UvAt (w.setCell ⟨g, 45, none⟩ (.int .i64 n)) g { x with now := n } := by
 have := At.set h 45 (.int .i64 n)
 have e := set_app ((x.b.cells x.s x.t).toList ++ x.k.cs.toList) (.int .i64 x.now) [x.v] (.int .i64 n) (n := 45) (by rw [List.length_append, x.blen, x.klen])
 rw [List.append_assoc, List.append_assoc] at e
 rwa [show x.cells.setIfInBounds 45 (.int .i64 n) = ({ x with now := n } : Uv).cells from e] at this
theorem UvAt.setV (h : UvAt w g x) (v : Value) : UvAt (w.setCell ⟨g, 46, none⟩ v) g { x with v := v } := by
 have := At.set h 46 v
 have e := set_app ((x.b.cells x.s x.t).toList ++ (x.k.cs.toList ++ [.int .i64 x.now])) x.v [] v (n := 46) (by rw [List.length_append, List.length_append, x.blen, x.klen]; rfl)
 simp only [List.append_assoc, List.singleton_append] at e
 rwa [show x.cells.setIfInBounds 46 v = ({ x with v := v } : Uv).cells from e] at this
theorem UvAt.setB (h : UvAt w g x) (b : U) (s t : Sl) : UvAt (w.setCells g 0 (b.cells s t).toList) g { x with b := b, s := s, t := t } := by
 have h1 : At w g 70 (([] : List Value) ++ ((x.b.cells x.s x.t).toList ++ (x.k.cs.toList ++ [Value.int .i64 x.now, x.v]))).toArray := h
 exact At.setCells (vs := (b.cells s t).toList) (by rw [Array.length_toList, Array.length_toList, b.size, x.b.size]) h1
theorem UvAt.setK (h : UvAt w g x) (k : Yr) : UvAt (w.setCells g 26 k.cs.toList) g { x with k := k } := by
 have h1 : At w g 70 ((x.b.cells x.s x.t).toList ++ (x.k.cs.toList ++ [Value.int .i64 x.now, x.v])).toArray := h
 have h3 := At.setCells (vs := k.cs.toList) (by rw [Array.length_toList, Array.length_toList, k.sz, x.k.sz]) h1
 rw [Array.length_toList, x.b.size] at h3
 exact h3
end
section
variable {ρ : Operand → Value} {w : World} {x y : Tmp} {g off : Nat} {d : Option Tmp} {t : TypeId} {pos : String} {af : Array Edge} {gd : Option (Nat × Bool)}
theorem run_load_um {b : U} {s p : Sl} (e : ρ (.tmp x) = ptr g off) (h : w.rangeAt g off (b.cells s p).toList) :
  (execOp ρ { dst := d, op := Op.load 65 (.tmp x), type := t, pos := pos, after := af, guard := gd }).run Tryz.prog w = .ok (.value (b.V s p)) w := by
 unfold execOp
 simp only [e, Instr.loadAt, Instr.sureAddr, Sem.run_bind, Sem.run_pure, Result.andThen_ok, run_loadVar_mid (P := Tryz.prog) w g off 65 _ _ h Tryz.underlying65 rfl (size65l b s p), Array.toArray_toList]
theorem run_load_yrm {k : Yr} (e : ρ (.tmp x) = ptr g off) (h : w.rangeAt g off k.cs.toList) :
  (execOp ρ { dst := d, op := Op.load 68 (.tmp x), type := t, pos := pos, after := af, guard := gd }).run Tryz.prog w = .ok (.value k.V) w := by
 unfold execOp
 simp only [e, Instr.loadAt, Instr.sureAddr, Sem.run_bind, Sem.run_pure, Result.andThen_ok, run_loadVar_mid (P := Tryz.prog) w g off 68 _ _ h Tryz.underlying68 rfl (size68l k), Array.toArray_toList]
end
section
variable {ops : Array Oper} {rest : List Oper} {o : Oper} {a : Act} {w : World} {Q : Exit → Act → World → Prop}
theorem wpList_load_yr (x : Tmp) (ho : o.op = .load 68 (.tmp x)) (hgd : Region.wanted o (yielded ops a.tmps) = true) {g off : Nat} {c : Yr} (e : a.eval (.tmp x) = ptr g off) (h : w.rangeAt g off c.cs.toList)
  (k : wpList Tryz.prog ops Q rest (a.put o.dst c.V) w) : wpList Tryz.prog ops Q (o :: rest) a w := by
 obtain ⟨dd, op, t, pos, af, gd⟩ := o
 subst ho
 exact wpList_run hgd _ (run_load_yrm e h) k
theorem wpList_store_um (x y : Tmp) (ho : o.op = .store 65 (.tmp x) (.tmp y)) (hgd : o.guard = none) {g off : Nat} {b : U} {s t : Sl} (ht : w.there g off 26) (e1 : a.eval (.tmp x) = ptr g off) (e2 : a.eval (.tmp y) = b.V s t)
  (k : wpList Tryz.prog ops Q rest (a.put o.dst undef) (w.setCells g off (b.cells s t).toList)) : wpList Tryz.prog ops Q (o :: rest) a w :=
 wpList_store_mid hgd 65 (.tmp x) (.tmp y) ho g off (b.cells s t) e1 e2 (by rw [b.size]; exact ht) (size65 b s t) (b.one s t) k
theorem wpList_store_yr (x y : Tmp) (ho : o.op = .store 68 (.tmp x) (.tmp y)) (hgd : o.guard = none) {g off : Nat} {c : Yr} (ht : w.there g off 19) (e1 : a.eval (.tmp x) = ptr g off) (e2 : a.eval (.tmp y) = c.V)
  (k : wpList Tryz.prog ops Q rest (a.put o.dst undef) (w.setCells g off c.cs.toList)) : wpList Tryz.prog ops Q (o :: rest) a w :=
 wpList_store_mid hgd 68 (.tmp x) (.tmp y) ho g off c.cs e1 e2 (by rw [c.sz]; exact ht) (size68 c) c.one k
end
def yrOf (c : Cfg) : Yr := ⟨(c.n.map (Value.int .i64) ++ [Value.int .u32 c.s, Value.slice none 0 0]).toArray, by simp [c.len], by
 refine Array.all_eq_true_iff_forall_mem.2 fun v hv => ?_
 simp at hv
 rcases hv with ⟨a, _, rfl⟩ | rfl | rfl <;> rfl⟩
theorem built_yr (c : Cfg) : Tryz.prog.built 68 [(0, c.V)] = some (yrOf c).cs := by
 obtain ⟨n, s, hl⟩ := c
 match n, hl with
 | [a0, a1, a2, a3, a4, a5, a6, a7, a8, a9, a10, a11, a12, a13, a14, a15, a16], _ => show _ = _; kernel_rfl
theorem built_uv (b : U) (s t : Sl) (k : Yr) : Tryz.prog.built 70 [(0, b.V s t), (1, k.V)] = some (⟨b, s, t, k, 0, .slice none 0 0⟩ : Uv).cells := by
 obtain ⟨⟨n, z, hl⟩, is, ix, lv, dn, m, ml⟩ := b
 obtain ⟨⟨cs⟩, sz, one⟩ := k
 have sz' : cs.length = 19 := sz
 match n, hl, m, ml, cs, sz' with
 | [a0, a1, a2, a3, a4, a5, a6, a7, a8, a9, a10, a11, a12, a13, a14, a15, a16], _, [m0, m1, m2, m3], _, [k0, k1, k2, k3, k4, k5, k6, k7, k8, k9, k10, k11, k12, k13, k14, k15, k16, k17, k18], _ => show _ = _; kernel_rfl
section
variable {ρ : Operand → Value} {w : World} {x y : Tmp} {d : Option Tmp} {t : TypeId} {pos : String} {af : Array Edge} {gd : Option (Nat × Bool)}
theorem run_build_yr {c : Cfg} (e : ρ (.tmp x) = c.V) :
  (execOp ρ { dst := d, op := Op.build 68 #[(0, .tmp x)], type := t, pos := pos, after := af, guard := gd }).run Tryz.prog w = .ok (.value (yrOf c).V) w := by
 have hf : Tryz.prog.built 68 ((#[(0, Operand.tmp x)] : Array (Nat × Operand)).map fun (i, u) => (i, ρ u)).toList = some (yrOf c).cs := by
  simp only [List.map_toArray, List.map_cons, List.map_nil, e]
  exact built_yr c
 unfold execOp
 simp only [Sem.run_bind, run_build w 68 _ _ hf, Result.andThen_ok, Sem.run_pure]
theorem run_build_uv {b : U} {s p : Sl} {k : Yr} (e1 : ρ (.tmp x) = b.V s p) (e2 : ρ (.tmp y) = k.V) :
  (execOp ρ { dst := d, op := Op.build 70 #[(0, .tmp x), (1, .tmp y)], type := t, pos := pos, after := af, guard := gd }).run Tryz.prog w = .ok (.value (⟨b, s, p, k, 0, .slice none 0 0⟩ : Uv).V) w := by
 have hf : Tryz.prog.built 70 ((#[(0, Operand.tmp x), (1, .tmp y)] : Array (Nat × Operand)).map fun (i, u) => (i, ρ u)).toList = some (⟨b, s, p, k, 0, .slice none 0 0⟩ : Uv).cells := by
  simp only [List.map_toArray, List.map_cons, List.map_nil, e1, e2]
  exact built_uv b s p k
 unfold execOp
 simp only [Sem.run_bind, run_build w 70 _ _ hf, Result.andThen_ok, Sem.run_pure]
theorem run_box_uv {c : Uv} (e : ρ (.tmp x) = c.V) :
  (execOp ρ { dst := d, op := Op.box 70 (.tmp x), type := t, pos := pos, after := af, guard := gd }).run Tryz.prog w = .ok (.value (ptr w.heap.size 0)) (w.alloc (.cells c.cells 70)) := by
 simp [execOp, go_sem, e]
end
end Go.Proofs.YtplapoenhohliaaGreat
namespace Go.Proofs.YtplapoenhohliaaGreat
open Go.RowKit Go.Lib
set_option linter.unusedVariables false
set_option linter.unusedSimpArgs false
def UbAt (b : U) (v : Value) (w : World) : Prop := ∃ s t, v = b.V s t ∧ UAt w b s t
theorem UbAt.keep {b : U} {v : Value} {w w' : World} (h : UbAt b v w) (hb : Below w.heap.size w w') : UbAt b v w' := by
 obtain ⟨s, t, rfl, h⟩ := h
 exact ⟨s, t, rfl, h.step hb⟩
def UwAt (b : U) (k : Yr) (v : Value) (w : World) : Prop := ∃ s t, v = (⟨b, s, t, k, 0, .slice none 0 0⟩ : Uv).V ∧ UAt w b s t
theorem UwAt.keep {b : U} {k : Yr} {v : Value} {w w' : World} (h : UwAt b k v w) (hb : Below w.heap.size w w') : UwAt b k v w' := by
 obtain ⟨s, t, rfl, h⟩ := h
 exact ⟨s, t, rfl, h.step hb⟩
def UxAt (B : Nat) (b : U) (k : Yr) (v : Value) (w : World) : Prop := ∃ q s t, v = ptr q 0 ∧ B ≤ q ∧ UvAt w q ⟨b, s, t, k, 0, .slice none 0 0⟩ ∧ UAt w b s t
theorem UxAt.keep {B : Nat} {b : U} {k : Yr} {v : Value} {w w' : World} (h : UxAt B b k v w) (hb : Below w.heap.size w w') : UxAt B b k v w' := by
 obtain ⟨q, s, t, rfl, hq, h1, h2⟩ := h
 exact ⟨q, s, t, rfl, hq, h1.step hb, h2.step hb⟩
set_option maxRecDepth 100000 in
set_option maxHeartbeats 1600000 in
theorem rnew_any (c : Cfg) (w : World) : Calls Tryz.prog 13 #[c.V] w fun e w' => ∃ q s t, e = .returned (ptr q 0) ∧ w.heap.size ≤ q ∧ UvAt w' q ⟨newU c, s, t, yrOf c, 0, .slice none 0 0⟩ ∧ UAt w' (newU c) s t ∧ Below w.heap.size w w' := by
 have H := Lib.hid (new1 w c.cells 24)
 have CN := Lib.hid (fun W => newU_any c W)
 go_enter Tryz.func13, Tryz.ntmps13
 go_upto_region 1 with fail
 obtain ⟨W, hW⟩ : ∃ W, w.alloc (.cells c.cells 24) = W := ⟨_, rfl⟩
 rw [hW] at H ⊢; clear hW
 have HC : Hid (CAt W w.heap.size c) := Lib.hid H.out.2
 have HB := Lib.hid H.out.1; clear H
 refine AnyOrder.region_kinds2 6 [.eq (c.V), .of (UbAt (newU c)), .eq (c.V), .eq ((yrOf c).V), .of (UwAt (newU c) (yrOf c)), .of (UxAt W.heap.size (newU c) (yrOf c))] (fun wx => Below W.heap.size W wx) (by kernel_rfl) (by kernel_rfl) rfl (by kernel_rfl) (below_drewN (Below.refl _ _) 1) (by intro p wa wb hp hj hb v hv; simp at hp; rcases hp with rfl | rfl | rfl <;> (first | exact UbAt.keep hv hb | exact UwAt.keep hv hb | exact UxAt.keep hv hb | fail)) ?_ ?_
 ·intro i o listed a1 w2 hin ho st hl hdep
  match i, ho with
  | 0, ho => (injection ho with ho; subst ho; have e0 : a1.eval (.tmp 1) = ptr w.heap.size 0 := st.old hl 1 (by kernel_rfl); exact AnyOrder.sv rfl rfl (c.V) (run_load_cfg e0 (CAt.step HC.out st.inv)) st.inv (Below.refl _ _) rfl)
  | 1, ho => (injection ho with ho; subst ho; have ec := AnyOrder.evc a1; have ef := AnyOrder.evf a1; have e0 : a1.eval (.tmp 3) = c.V := st.done 0 3 (hdep ⟨0, .data⟩ (by simp) rfl) rfl; exact AnyOrder.step_call rfl (AnyOrder.wanted_none rfl) 31 #[c.V] (by generalize a1.eval = ρ at ec ef e0 ⊢; simp [execOp, ec, ef, e0, go_sem]) ((CN.out w2).mono (fun e w4 h => by obtain ⟨s, t, rfl, ha, hb⟩ := h; exact ⟨_, rfl, st.inv.trans (hb.mono st.inv.size), hb, s, t, rfl, ha⟩)))
  | 2, ho => (injection ho with ho; subst ho; have e0 : a1.eval (.tmp 1) = ptr w.heap.size 0 := st.old hl 1 (by kernel_rfl); exact AnyOrder.sv rfl rfl (c.V) (run_load_cfg e0 (CAt.step HC.out st.inv)) st.inv (Below.refl _ _) rfl)
  | 3, ho => (injection ho with ho; subst ho; have e0 : a1.eval (.tmp 5) = c.V := st.done 2 5 (hdep ⟨2, .data⟩ (by simp) rfl) rfl; exact AnyOrder.sv rfl rfl ((yrOf c).V) (run_build_yr e0) st.inv (Below.refl _ _) rfl)
  | 4, ho => (injection ho with ho; subst ho; have e0 := st.done 1 4 (hdep ⟨1, .data⟩ (by simp) rfl) rfl; have e1 : a1.eval (.tmp 6) = (yrOf c).V := st.done 3 6 (hdep ⟨3, .data⟩ (by simp) rfl) rfl; obtain ⟨s, t, e18, h18⟩ := e0; exact AnyOrder.sv rfl rfl _ (run_build_uv e18 e1) st.inv (Below.refl _ _) ⟨s, t, rfl, h18⟩)
  | 5, ho => (injection ho with ho; subst ho; have e0 := st.done 4 7 (hdep ⟨4, .data⟩ (by simp) rfl) rfl; obtain ⟨s, t, e18, h18⟩ := e0; exact AnyOrder.sv rfl rfl (ptr w2.heap.size 0) (run_box_uv e18) (st.inv.alloc st.inv.size _) (below_new _ _) ⟨w2.heap.size, s, t, rfl, st.inv.size, At.new _ _ _, h18.step (below_new _ _)⟩)
  | n + 6, ho => exact absurd hin (by omega)
 ·intro w3 hJ3
  simp only [AnyOrder.finK, List.take_succ_cons, List.take_zero, List.drop_succ_cons, List.drop_zero, Act.put, List.setIfInBounds_toArray, List.set_cons_zero, List.set_cons_succ]
  intro v1 h1 v4 h4 v5 h5
  clear h1 h4
  obtain ⟨q, s, t, rfl, hq, h6, h7⟩ := h5
  have H6 := Lib.hid h6; have H7 := Lib.hid h7; have HQ := Lib.hid hq
  clear h6 h7 hq
  go_wp2_with fail
  go_ret
  exact ⟨q, s, t, rfl, Nat.le_trans HB.out.size HQ.out, H6.out, H7.out, HB.out.trans (hJ3.mono HB.out.size)⟩
theorem since_filter {xs : List Cg} (hs : Rises xs) (n : Int) : xs.filter (fun c => decide (n < c.ix)) = since xs n := by
 obtain ⟨h1, h2⟩ := upto_spec hs n
 unfold since
 generalize upto xs n = k at *
 have e1 : (xs.take k).filter (fun c => decide (n < c.ix)) = [] := by
  rw [List.filter_eq_nil_iff]
  intro c hc
  obtain ⟨i, hi⟩ := List.mem_iff_getElem?.1 hc
  rw [List.getElem?_take] at hi
  split at hi
  ·next hlt => have := h1 i hlt c hi; simp; omega
  ·cases hi
 have e2 : (xs.drop k).filter (fun c => decide (n < c.ix)) = xs.drop k := by
  rw [List.filter_eq_self]
  intro c hc
  obtain ⟨i, hi⟩ := List.mem_iff_getElem?.1 hc
  rw [List.getElem?_drop] at hi
  have := h2 (k + i) (by omega) c hi
  simpa using this
 conv => lhs; rw [← List.take_append_drop k xs, List.filter_append, e1, e2]
 rfl
theorem wpList_load_cgp (x : Tmp) {ops : Array Oper} {rest : List Oper} {o : Oper} {a : Act} {w : World} {Q : Exit → Act → World → Prop} (ho : o.op = .load 48 (.tmp x)) (hgd : Region.wanted o (yielded ops a.tmps) = true) {g off : Nat} {c : Cg} (e : a.eval (.tmp x) = ptr g off) (h : w.rangeAt g off c.cells.toList)
  (k : wpList Tryz.prog ops Q rest (a.put o.dst c.V) w) : wpList Tryz.prog ops Q (o :: rest) a w := by
 obtain ⟨dd, op, t, pos, af, gd⟩ := o
 subst ho
 exact wpList_run hgd _ (run_load_cgr e h) k
theorem wpList_slice_cg {ops : Array Oper} {rest : List Oper} {o : Oper} {a : Act} {w : World} {Q : Exit → Act → World → Prop} (y : Tmp) (ho : o.op = .buildSlice 49 1 #[(0, .tmp y)]) (hgd : o.guard = none) {c : Cg} (e : a.eval (.tmp y) = c.V)
  (k : wpList Tryz.prog ops Q rest (a.put o.dst (.slice (some ⟨w.heap.size, 0, none⟩) 1 1)) (w.alloc (.cells c.cells 48))) : wpList Tryz.prog ops Q (o :: rest) a w := by
 obtain ⟨ie, hie, hz, hsz, _⟩ := Sh.info_of (e := 48) (z := .agg Z11) (s := 11) (b := 88) (by kernel_rfl)
 refine wpList_buildSlice hgd 49 48 1 _ ho c.cells ie (.agg Z11) Tryz.underlying49 hie hz (by rw [hsz]; decide) (by rw [hsz]; decide) ?_ k
 rw [hsz]
 simp only [List.map_toArray, List.map_cons, List.map_nil, e]
 kernel_rfl
set_option maxRecDepth 100000 in
set_option maxHeartbeats 1600000 in
theorem rsince_any {w : World} {q : Nat} {x : Uv} {n : Int} {xs : List Cg} (hu : UvAt w q x) (hr : Sh.Rd eG w x.v xs) (hs : Rises xs) (hn : xs.length ≤ 1000) : Calls Tryz.prog 17 #[ptr q 0, .int .i64 n] w fun e w' => ∃ v', e = .returned v' ∧ Sh.OwO eG w' w.heap.size v' (since xs n) ∧ Below w.heap.size w w' := by
 obtain ⟨O, cap, hxv, _⟩ := hr
 have HR0 : Hid (Sh.Rd eG w (.slice O xs.length cap) xs) := Lib.hid (by rw [← hxv]; exact ⟨O, cap, hxv, by assumption⟩)
 have HU0 := Lib.hid hu; have HXV := Lib.hid hxv
 have HF := Lib.hid (since_filter hs n)
 rw [← HF.out]
 clear hu hs hxv
 obtain ⟨N, hN⟩ : ∃ N, xs.length = N := ⟨_, rfl⟩
 rw [hN] at hn HR0 HXV
 have HN := Lib.hid hN; clear hN
 go_enter Tryz.func17, Tryz.ntmps17
 go_upto_region 2 with fail
 have bd := below_new w (.cells #[] 48)
 have HO0 : Hid (Sh.OwO eG (w.alloc (.cells #[] 48)) w.heap.size (.slice (some ⟨w.heap.size, 0, none⟩) 0 0) []) := Lib.hid (Sh.OwO.lit0 eG w (Nat.le_refl _))
 obtain ⟨W, hW⟩ : ∃ W, w.alloc (.cells #[] 48) = W := ⟨_, rfl⟩
 rw [hW] at bd HO0 ⊢
 have HB := Lib.hid bd
 clear hW bd
 generalize Value.slice (some ⟨w.heap.size, 0, none⟩) 0 0 = rv0 at HO0 ⊢
 go_wp2_with fail
 go_loopg [6, 5] N (fun gh s6 s5 wx => ∃ (i : Nat) (rv : Value), i ≤ N ∧ gh = N - i ∧ s6 = .int .i64 (i : Int) ∧ rv = s5 ∧ Sh.OwO eG wx w.heap.size rv ((xs.take i).filter (fun c => decide (n < c.ix))) ∧ Below w.heap.size w wx)
 case atStart => exact ⟨0, rv0, Nat.zero_le _, rfl, rfl, rfl, HO0.out, HB.out⟩
 case round =>
  clear HO0 HB
  obtain ⟨i, rv, hi, hg, rfl, rfl, ho, hb⟩ := hrel
  have HG := Lib.hid hg; have HO := Lib.hid ho; have HB := Lib.hid hb
  have HU := Lib.hid (At.step HU0.out hb); have HR := Lib.hid (HR0.out.below hb)
  clear hg ho hb
  have k46 := UvAt.k46 HU.out
  rw [HXV.out] at k46
  by_cases hlt : i < N
  ·have b3 : (i : Int) < (N : Int) := by omega
   have b4 : (0 : Int) ≤ (i : Int) := by omega
   have HLT := Lib.hid hlt
   obtain ⟨z, hz⟩ : ∃ z, xs[i]? = some z := ⟨_, List.getElem?_eq_getElem (by have := HN.out; omega)⟩
   obtain ⟨b5, o5, rfl, l5, k5⟩ := row_at HR.out hz
   have k6 : wr.cell? ⟨b5, o5 + i * 11, none⟩ = some (.int .i64 z.ix) := by have h := k5 0 (.int .i64 z.ix) rfl; rwa [Nat.add_zero] at h
   have HT : Hid (xs.take (i + 1) = xs.take i ++ [z]) := Lib.hid (by rw [List.take_add_one, hz]; rfl)
   have KR := Lib.hid k5
   have hlen : ((xs.take i).filter (fun c => decide (n < c.ix))).length ≤ 1000 := Nat.le_trans (List.length_filter_le _ _) (by rw [List.length_take]; omega)
   by_cases hzn : n < z.ix
   ·have d1 : decide (n < z.ix) = true := by simpa using hzn
    have bd := below_new wr (.cells z.cells 48)
    obtain ⟨rv1, W2, hr1, ho1, hc1, _⟩ := Sh.OwO.push (x := z) (HO.out.below bd) (Nat.le_trans HB.out.size bd.size) (b := wr.heap.size) (off := 0) (cap := 1) (fun j u hu => by rw [At.cell (At.new wr 48 z.cells), Nat.zero_add]; simpa [eG] using hu) (by omega) 49
    have HR1 := Lib.hid hr1
    have hbx : Below w.heap.size w W2 := (HB.out.trans (bd.mono HB.out.size)).trans (hc1.toBelow (Nat.le_trans HB.out.size bd.size) (fun k hk e => by have := ((HO.out.below bd).lt e).1; omega))
    have HBX := Lib.hid hbx
    have HOx : Hid ((xs.take (i + 1)).filter (fun c => decide (n < c.ix)) = (xs.take i).filter (fun c => decide (n < c.ix)) ++ [z]) := Lib.hid (by rw [HT.out, List.filter_append]; simp [hzn])
    have HO2 := Lib.hid ho1
    clear hz l5 hlt hi hlen hzn hbx hr1 ho1 hc1 bd k5
    obtain ⟨zi, hzi⟩ : ∃ zi, z.ix = zi := ⟨_, rfl⟩
    rw [hzi] at d1 k6
    clear hzi
    go_wp2_with (first | ((with_reducible apply wpList_load_cgp (c := z) (h := KR.out)); exact rfl; exact rfl; exact rfl) | ((with_reducible apply wpList_slice_cg (c := z)); exact rfl; exact rfl; exact rfl) | (at_builtin; (refine Lib.wpList_append_run _ rfl (.tmp 27) (.tmp 35) 49 49 rfl _ _ rfl rfl rv1 W2 HR1.out ?_)))
    go_roundg (N - (i + 1))
    case measure => have := HG.out; have := HLT.out; omega
    case rel => exact ⟨i + 1, rv1, by have := HLT.out; omega, rfl, by go_num, rfl, by rw [HOx.out]; exact HO2.out, HBX.out⟩
   ·have d1 : decide (n < z.ix) = false := by simpa using hzn
    have HOx : Hid ((xs.take (i + 1)).filter (fun c => decide (n < c.ix)) = (xs.take i).filter (fun c => decide (n < c.ix))) := Lib.hid (by rw [HT.out, List.filter_append]; simp [hzn])
    clear hz l5 k5 KR hlt hi hlen hzn
    generalize z.ix = zi at *
    go_wp2_with fail
    go_roundg (N - (i + 1))
    case measure => have := HG.out; have := HLT.out; omega
    case rel => exact ⟨i + 1, rv, by have := HLT.out; omega, rfl, by go_num, rfl, by rw [HOx.out]; exact HO.out, HB.out⟩
  ·obtain rfl : i = N := by omega
   have b3 : ¬ (i : Int) < (i : Int) := by omega
   have HT : Hid (xs.take i = xs) := Lib.hid (List.take_of_length_le (by rw [HN.out]; exact Nat.le_refl _))
   clear hlt hi HG
   go_wp2_with fail
   go_ret
   exact ⟨rv, rfl, by have h := HO.out; rwa [HT.out] at h, HB.out⟩
end Go.Proofs.YtplapoenhohliaaGreat
