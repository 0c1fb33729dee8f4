/- The document's own keys: an entry, the keys, where they lie; Stamp, Good. -/
import Derived.Test.YtedogbkkophghaaKyO
import Derived.Test.YtedogbkkophghaaKyR0
namespace Go.Proofs.Ytedogbkkophghaa
open Go.RowKit Go.Lib
open Sh.Plain (KV get put Rise)
set_option linter.unusedVariables false
set_option linter.unusedSimpArgs false

/-- an entry -/
structure En where
  who : Int
  key : Int
  body : ByteArray
  ans : ByteArray
def En.cells (y : En) : Array Value := #[.int .i64 y.who, .int .u64 y.key, .string y.body, .string y.ans]
abbrev En.V (y : En) : Value := .agg y.cells
def zn : En := ⟨0, 0, zt, zt⟩
abbrev Z4 : Array Value := #[.int .i64 0, .int .u64 0, .string ⟨#[]⟩, .string ⟨#[]⟩]
theorem En.size (y : En) : y.cells.size = 4 := rfl
theorem sizeN (y : En) : (Try.prog.info? 74).map (·.size) = some y.cells.size := by rw [y.size]; kernel_rfl
theorem En.one (y : En) : y.cells.all (·.oneCell') = true := by simp [En.cells, Value.oneCell']
def eN : Sh.El En := ⟨33, 74, 4, 48, .agg zn.cells, fun y => y.cells.toList, fun _ => rfl, by simp [En.cells, Value.oneCell'], by decide, Try.underlying33, Sh.info_of (by kernel_rfl), rfl, by decide⟩
theorem rowN_at {w : World} {O : Option Addr} {n cap i : Nat} {xs : List En} {x : En} (h : Sh.Rd eN w (.slice O n cap) xs) (hx : xs[i]? = some x) : ∃ b off, O = some ⟨b, off, none⟩ ∧ b < w.heap.size ∧ w.rangeAt b (off + i * 4) x.cells.toList := by
  obtain ⟨O', cap', e, _, k⟩ := h
  injection e with e
  subst e
  exact k i x hx
theorem En.rows {w : World} {b off : Nat} {y : En} (h : w.rangeAt b off y.cells.toList) : w.cell? ⟨b, off, none⟩ = some (.int .i64 y.who) ∧ w.cell? ⟨b, off + 1, none⟩ = some (.int .u64 y.key) ∧ w.cell? ⟨b, off + 2, none⟩ = some (.string y.body) ∧ w.cell? ⟨b, off + 3, none⟩ = some (.string y.ans) :=
  ⟨h 0 _ rfl, h 1 _ rfl, h 2 _ rfl, h 3 _ rfl⟩
theorem own_sl {w : World} {B : Nat} {v : Value} {l : List En} (h : Sh.Own eN w B v l) : ∃ O cap, v = .slice O l.length cap := by
  rcases h.form with ⟨rfl, rfl⟩ | ⟨g, cap, rfl, _⟩
  · exact ⟨_, _, rfl⟩
  · exact ⟨_, _, rfl⟩
/-- keys: a building, entries in a row -/
structure Ur where
  c : Cfg
  l : List En
/-- a slice -/
abbrev slv (O : Option Addr) (n k : Nat) : Value := .slice O n k
def Ur.cells (u : Ur) (O : Option Addr) (k : Nat) : Array Value := (u.c.n.map (Value.int .i64) ++ [.int .u32 u.c.s, slv O u.l.length k]).toArray
abbrev Ur.V (u : Ur) (O : Option Addr) (k : Nat) : Value := .agg (u.cells O k)
def zu : Ur := ⟨zc, []⟩
abbrev Z19 : Array Value := #[.int .i64 0, .int .i64 0, .int .i64 0, .int .i64 0, .int .i64 0, .int .i64 0, .int .i64 0, .int .i64 0, .int .i64 0, .int .i64 0, .int .i64 0, .int .i64 0, .int .i64 0, .int .i64 0, .int .i64 0, .int .i64 0, .int .i64 0, .int .u32 0, .slice none 0 0]
section
variable (u : Ur) (O : Option Addr) (k : Nat)
theorem Ur.size : (u.cells O k).size = 19 := by simp [Ur.cells, u.c.len]
theorem Ur.one : (u.cells O k).all (·.oneCell') = true := by
  refine Array.all_eq_true_iff_forall_mem.2 fun v hv => ?_
  simp [Ur.cells] at hv
  rcases hv with ⟨a, _, rfl⟩ | rfl | rfl <;> rfl
theorem Ur.at_tail (j : Nat) : (u.cells O k)[17 + j]? = [Value.int .u32 u.c.s, slv O u.l.length k][j]? := by
  have h : ¬ 17 + j < (u.c.n.map (Value.int .i64)).length := by rw [List.length_map, u.c.len]; omega
  simp only [Ur.cells, List.getElem?_toArray, List.getElem?_append, if_neg h]
  rw [List.length_map, u.c.len, Nat.add_sub_cancel_left]
theorem Ur.at18 : (u.cells O k)[18]? = some (slv O u.l.length k) := u.at_tail O k 1
theorem Ur.conf (j : Nat) (x : Value) (h : u.c.cells[j]? = some x) : (u.cells O k)[0 + j]? = some x := by
  rw [Nat.zero_add]
  have hj : j < 18 := by have := (Array.getElem?_eq_some_iff.1 h).1; rwa [u.c.size] at this
  by_cases h17 : j < 17
  · have hl : j < u.c.n.length := by rw [u.c.len]; exact h17
    simp only [Cfg.cells, List.getElem?_toArray] at h
    simp only [Ur.cells, List.getElem?_toArray]
    rw [List.getElem?_append_left (by rw [List.length_map]; exact hl)] at h ⊢
    exact h
  · obtain rfl : j = 17 := by omega
    rw [u.c.atS] at h
    rw [← h]
    exact u.at_tail O k 0
theorem sizeU : (Try.prog.info? 35).map (·.size) = some (u.cells O k).size := by rw [u.size]; kernel_rfl
end
/-- keys lie in a block -/
abbrev UrAt (w : World) (g : Nat) (u : Ur) (O : Option Addr) (k : Nat) : Prop := At w g 35 (u.cells O k)
section
variable {w w' : World} {g : Nat} {u : Ur} {O : Option Addr} {k : Nat}
theorem UrAt.k18 (h : UrAt w g u O k) : w.cell? ⟨g, 18, none⟩ = some (slv O u.l.length k) := by rw [At.cell h, u.at18]
theorem UrAt.kc (h : UrAt w g u O k) : w.rangeAt g 0 u.c.cells.toList := fun j x hx => by
  rw [At.cell h]; exact u.conf O k j x (by simpa using hx)
theorem UrAt.cget (h : UrAt w g u O k) {j : Nat} (hj : j < 17) : w.cell? ⟨g, j, none⟩ = some (.int .i64 (u.c.get j)) := by
  rw [At.cell h]
  have := u.conf O k j _ (u.c.at_ hj)
  rwa [Nat.zero_add] at this
theorem UrAt.new (w : World) (u : Ur) (O : Option Addr) (k : Nat) : UrAt (w.alloc (.cells (u.cells O k) 35)) w.heap.size u O k := At.new w 35 _
end
section
variable {ρ : Operand → Value} {w : World} {x y z t1 : Tmp} {d : Option Tmp} {t : TypeId} {pos : String} {af : Array Edge} {gd : Option (Nat × Bool)}
theorem run_load_ur {g : Nat} {u : Ur} {O : Option Addr} {k : Nat} (e : ρ (.tmp x) = ptr g 0) (h : UrAt w g u O k) : (execOp ρ { dst := d, op := Op.load 35 (.tmp x), type := t, pos := pos, after := af, guard := gd }).run Try.prog w = .ok (.value (u.V O k)) w := by
  unfold execOp
  simp only [e, Instr.loadAt, Instr.sureAddr, Sem.run_bind, Sem.run_pure, Result.andThen_ok, run_loadVar_row w g 35 35 (u.cells O k) (0, 0) _ h Try.underlying35 rfl (sizeU u O k)]
theorem run_load_cp {g off : Nat} {c : Cfg} (e : ρ (.tmp x) = ptr g off) (h : w.rangeAt g off c.cells.toList) : (execOp ρ { dst := d, op := Op.load 24 (.tmp x), type := t, pos := pos, after := af, guard := gd }).run Try.prog w = .ok (.value c.V) w := by
  unfold execOp
  simp only [e, Instr.loadAt, Instr.sureAddr, Sem.run_bind, Sem.run_pure, Result.andThen_ok, run_loadVar_mid (P := Try.prog) w g off 24 _ _ h Try.underlying24 rfl (by simpa using size24 c), Array.toArray_toList]
theorem built_ur (c : Cfg) (l : List En) (O : Option Addr) (k : Nat) : Try.prog.built 35 [(0, c.V), (1, slv O l.length k)] = some ((⟨c, l⟩ : Ur).cells O k) := by
  obtain ⟨n, s, hl⟩ := c
  generalize hm : l.length = m
  have e : (⟨⟨n, s, hl⟩, l⟩ : Ur).cells O k = (n.map (Value.int .i64) ++ [.int .u32 s, slv O m k]).toArray := by rw [← hm]; rfl
  rw [e]
  match n, hl with
  | [a0, a1, a2, a3, a4, a5, a6, a7, a8, a9, a10, a11, a12, a13, a14, a15, a16], _ => show _ = _; kernel_rfl
theorem run_build_ur {c : Cfg} {l : List En} {O : Option Addr} {k : Nat} (e1 : ρ (.tmp x) = c.V) (e2 : ρ (.tmp y) = slv O l.length k) :
    (execOp ρ { dst := d, op := Op.build 35 #[(0, .tmp x), (1, .tmp y)], type := t, pos := pos, after := af, guard := gd }).run Try.prog w = .ok (.value ((⟨c, l⟩ : Ur).V O k)) w := by
  have hf : Try.prog.built 35 ((#[(0, Operand.tmp x), (1, .tmp y)] : Array (Nat × Operand)).map fun (i, u) => (i, ρ u)).toList = some ((⟨c, l⟩ : Ur).cells O k) := by
    simp only [List.map_toArray, List.map_cons, List.map_nil, e1, e2]
    exact built_ur c l O k
  unfold execOp
  simp only [Sem.run_bind, run_build w 35 _ _ hf, Result.andThen_ok, Sem.run_pure]
theorem run_build_en {a b : Int} {s r : ByteArray} (e1 : ρ (.tmp x) = .int .i64 a) (e2 : ρ (.tmp y) = .int .u64 b) (e3 : ρ (.tmp z) = .string s) (e4 : ρ (.tmp t1) = .string r) :
    (execOp ρ { dst := d, op := Op.build 74 #[(0, .tmp x), (1, .tmp y), (2, .tmp z), (3, .tmp t1)], type := t, pos := pos, after := af, guard := gd }).run Try.prog w = .ok (.value (⟨a, b, s, r⟩ : En).V) w := by
  have hf : Try.prog.built 74 ((#[(0, Operand.tmp x), (1, .tmp y), (2, .tmp z), (3, .tmp t1)] : Array (Nat × Operand)).map fun (i, u) => (i, ρ u)).toList = some (⟨a, b, s, r⟩ : En).cells := by
    simp only [List.map_toArray, List.map_cons, List.map_nil, e1, e2, e3, e4]
    kernel_rfl
  unfold execOp
  simp only [Sem.run_bind, run_build w 74 _ _ hf, Result.andThen_ok, Sem.run_pure]
theorem run_slice_en {c : En} (e : ρ (.tmp x) = c.V) : (execOp ρ { dst := d, op := Op.buildSlice 33 1 #[(0, .tmp x)], type := t, pos := pos, after := af, guard := gd }).run Try.prog w = .ok (.value (.slice (some ⟨w.heap.size, 0, none⟩) 1 1)) (w.alloc (.cells c.cells 74)) := by
  obtain ⟨ie, hie, hz, hsz, _⟩ := Sh.info_of (e := 74) (z := .agg Z4) (s := 4) (b := 48) (by kernel_rfl)
  have hf : Instr.fill (fun i => some (i * ie.size, ie.size)) ((Array.range (1 * ie.size)).map ((Value.agg Z4).cells[· % (Value.agg Z4).cells.size]!)) ((#[(0, Operand.tmp x)] : Array (Nat × Operand)).map fun (i, u) => (i, ρ u)).toList = some c.cells := by
    rw [hsz]
    simp only [List.map_toArray, List.map_cons, List.map_nil, e]
    kernel_rfl
  unfold execOp
  simp only [Sem.run_bind, run_buildSlice w 33 74 1 _ c.cells ie (.agg Z4) Try.underlying33 hie hz (by rw [hsz]; decide) (by rw [hsz]; decide) hf, Result.andThen_ok, Sem.run_pure]
end
section
variable {ops : Array Oper} {rest : List Oper} {o : Oper} {a : Act} {w : World} {Q : Exit → Act → World → Prop}
theorem wpList_load_ur (x : Tmp) (ho : o.op = .load 35 (.tmp x)) (hgd : Region.wanted o (yielded ops a.tmps) = true) {g : Nat} {u : Ur} {O : Option Addr} {n : Nat} (e : a.eval (.tmp x) = ptr g 0) (h : UrAt w g u O n)
    (k : wpList Try.prog ops Q rest (a.put o.dst (u.V O n)) w) : wpList Try.prog ops Q (o :: rest) a w :=
  wpList_load_rowG hgd 35 (.tmp x) ho g e 35 (u.cells O n) (0, 0) _ h Try.underlying35 rfl (sizeU u O n) k
theorem wpList_store_ur (x y : Tmp) (ho : o.op = .store 35 (.tmp x) (.tmp y)) (hgd : o.guard = none) {q : Nat} {u z : Ur} {O O' : Option Addr} {n n' : Nat} (e1 : a.eval (.tmp x) = ptr q 0) (e2 : a.eval (.tmp y) = u.V O n) (hq : UrAt w q z O' n')
    (k : wpList Try.prog ops Q rest (a.put o.dst undef) (w.setRow q (u.cells O n))) : wpList Try.prog ops Q (o :: rest) a w :=
  wpList_store_row hgd 35 (.tmp x) (.tmp y) ho q (u.cells O n) e1 e2 35 (z.cells O' n') hq (sizeU u O n) (by rw [z.size, u.size]) (u.one O n) k
theorem wpList_store_urnew (x y : Tmp) (ho : o.op = .store 35 (.tmp x) (.tmp y)) (hgd : o.guard = none) {u : Ur} {O : Option Addr} {n : Nat} (e1 : a.eval (.tmp x) = ptr w.heap.size 0) (e2 : a.eval (.tmp y) = u.V O n)
    (k : wpList Try.prog ops Q rest (a.put o.dst undef) (w.alloc (.cells (u.cells O n) 35))) : wpList Try.prog ops Q (o :: rest) a (w.alloc (.cells Z19 35)) := by
  refine wpList_store_row hgd 35 (.tmp x) (.tmp y) ho w.heap.size (u.cells O n) e1 e2 35 Z19 (At.new w 35 Z19) (sizeU u O n) (by rw [u.size]; rfl) (u.one O n) ?_
  rw [World.setRow_alloc_new]
  exact k
theorem wpList_build_zu (ho : o.op = .build 35 #[]) (hgd : o.guard = none) (k : wpList Try.prog ops Q rest (a.put o.dst (zu.V none 0)) w) : wpList Try.prog ops Q (o :: rest) a w :=
  wpList_build_as hgd 35 #[] ho (zu.cells none 0) (by kernel_rfl) k
theorem wpList_load_en (x : Tmp) (ho : o.op = .load 74 (.tmp x)) (hgd : Region.wanted o (yielded ops a.tmps) = true) {g off : Nat} {y : En} (e : a.eval (.tmp x) = ptr g off) (h : w.rangeAt g off y.cells.toList)
    (k : wpList Try.prog ops Q rest (a.put o.dst y.V) w) : wpList Try.prog ops Q (o :: rest) a w :=
  wpList_load_part 74 x ho hgd e h Try.underlying74 rfl (sizeN y) k
theorem wpList_slice_en (y : Tmp) (ho : o.op = .buildSlice 33 1 #[(0, .tmp y)]) (hgd : Region.wanted o (yielded ops a.tmps) = true) {c : En} (e : a.eval (.tmp y) = c.V)
    (k : wpList Try.prog ops Q rest (a.put o.dst (.slice (some ⟨w.heap.size, 0, none⟩) 1 1)) (w.alloc (.cells c.cells 74))) : wpList Try.prog ops Q (o :: rest) a w := by
  obtain ⟨d, op, t, pos, af, gd⟩ := o
  subst ho
  exact wpList_run hgd _ (run_slice_en e) k
end
theorem results_ur {fn : Func} {p r : Tmp} (h : fn.results = #[.cell p 35, .tmp r]) {tmps : Array Value} {w : World} {g : Nat} {u : Ur} {O : Option Addr} {k : Nat} {v : Value} (hp : tmps.getD p undef = ptr g 0) (hr : tmps.getD r undef = v) (hg : UrAt w g u O k) :
    (results fn tmps).run Try.prog w = .ok (.tuple #[u.V O k, v]) w := by
  rw [Array.getD_eq_getD_getElem?] at hp hr
  have l1 : (loadVar 35 ⟨g, 0, none⟩).run Try.prog w = .ok (u.V O k) w := run_loadVar_row w g 35 35 (u.cells O k) (0, 0) _ hg Try.underlying35 rfl (sizeU u O k)
  simp [results, h, hp, hr, asAddr, l1]
/-- Stamp, the document's own -/
theorem rstamp_any (k : Int) (h : isU k) (w : World) : Calls Try.prog 13 #[.int .u64 k] w fun e w' => e = .returned (.int .i64 (stp k)) ∧ w = w' := by
  have H := stp_in h
  unfold isU at h
  have h0 : (0 : Int) ≤ k := h.1
  go_enter Try.func13, Try.ntmps13
  go_wp2
  go_ret
  exact ⟨rfl, rfl⟩
set_option maxRecDepth 100000 in
set_option maxHeartbeats 1600000 in
theorem rgood_no (c : Cfg) (k now : Int) (hk : isU k) (w : World) (hc : okc c = false) : Calls Try.prog 11 #[c.V, .int .u64 k, .int .i64 now] w fun e w' => e = .returned (.bool (goodK c k now)) ∧ Below w.heap.size w w' := by
  have HA := Lib.hid (CAt.new w c)
  have HB := Lib.hid (below_new w (.cells c.cells 24))
  have CG := Lib.hid (fun W => by have h := good_any c W; rwa [hc] at h)
  rw [show goodK c k now = false by unfold goodK; rw [hc]; rfl]
  clear hc hk
  go_enter Try.func11, Try.ntmps11
  go_upto_region 1 with fail
  obtain ⟨W, hW⟩ : ∃ W, w.alloc (.cells c.cells 24) = W := ⟨_, rfl⟩
  rw [hW] at HA HB ⊢; clear hW
  refine AnyOrder.region_kinds2 17 [.eq (c.V), .eq (.bool false), .eq (.bool false), .eq (undef), .eq (undef), .eq (undef), .eq (undef), .eq (.bool false), .eq (.bool false), .eq (undef), .eq (undef), .eq (undef), .eq (undef), .eq (undef), .eq (undef), .eq (undef), .eq (.bool false)] (fun wx => Below W.heap.size W wx) (by kernel_rfl) (by kernel_rfl) rfl (by kernel_rfl) (below_drewN (Below.refl _ _) 1) (fun p _ _ hp => by simp at hp) ?_ ?_
  · intro i o listed a1 w2 hin ho st hl hdep
    match i, ho with
    | 0, ho => (injection ho with ho; subst ho; have ec : ∀ v, a1.eval (.const v) = v := fun _ => rfl; have ef : ∀ f, a1.eval (.func f) = .func (.func f) #[] #[] := fun _ => rfl; have e0 : a1.eval (.tmp 3) = ptr w.heap.size 0 := st.old hl 3 (by kernel_rfl); exact AnyOrder.step_value rfl (AnyOrder.wanted_none rfl) (c.V) (run_load_cfg e0 (CAt.step HA.out st.inv)) st.inv (Below.refl _ _) rfl)
    | 1, ho => (injection ho with ho; subst ho; have ec : ∀ v, a1.eval (.const v) = v := fun _ => rfl; have ef : ∀ f, a1.eval (.func f) = .func (.func f) #[] #[] := fun _ => rfl; have e0 : a1.eval (.tmp 7) = c.V := st.done 0 7 (hdep ⟨0, .data⟩ (by simp) rfl) rfl; exact AnyOrder.step_call rfl (AnyOrder.wanted_none rfl) 9 #[c.V] (by generalize a1.eval = ρ at ec ef e0 ⊢; simp [execOp, ec, ef, e0, go_sem]) ((CG.out w2).mono (fun e w3 h => by obtain ⟨rfl, hb⟩ := h; exact ⟨_, rfl, st.inv.trans (hb.mono st.inv.size), hb, rfl⟩)))
    | 2, ho => (injection ho with ho; subst ho; have ec : ∀ v, a1.eval (.const v) = v := fun _ => rfl; have ef : ∀ f, a1.eval (.func f) = .func (.func f) #[] #[] := fun _ => rfl; have e0 : a1.eval (.tmp 8) = .bool false := st.done 1 8 (hdep ⟨1, .data⟩ (by simp) rfl) rfl; exact AnyOrder.step_value rfl (AnyOrder.wanted_none rfl) (.bool false) (AnyOrder.run_move e0) st.inv (Below.refl _ _) rfl)
    | 3, ho => (injection ho with ho; subst ho; have ec : ∀ v, a1.eval (.const v) = v := fun _ => rfl; have ef : ∀ f, a1.eval (.func f) = .func (.func f) #[] #[] := fun _ => rfl; have eg : a1.eval (.tmp 9) = .bool false := st.done 2 9 (hdep ⟨2, .guard⟩ (by simp) rfl) rfl; exact AnyOrder.step_skip rfl ((AnyOrder.wanted_of rfl rfl eg).trans rfl) st.inv rfl)
    | 4, ho => (injection ho with ho; subst ho; have ec : ∀ v, a1.eval (.const v) = v := fun _ => rfl; have ef : ∀ f, a1.eval (.func f) = .func (.func f) #[] #[] := fun _ => rfl; have eg : a1.eval (.tmp 9) = .bool false := st.done 2 9 (hdep ⟨2, .guard⟩ (by simp) rfl) rfl; exact AnyOrder.step_skip rfl ((AnyOrder.wanted_of rfl rfl eg).trans rfl) st.inv rfl)
    | 5, ho => (injection ho with ho; subst ho; have ec : ∀ v, a1.eval (.const v) = v := fun _ => rfl; have ef : ∀ f, a1.eval (.func f) = .func (.func f) #[] #[] := fun _ => rfl; have eg : a1.eval (.tmp 9) = .bool false := st.done 2 9 (hdep ⟨2, .chain⟩ (by simp) rfl) rfl; exact AnyOrder.step_skip rfl ((AnyOrder.wanted_of rfl rfl eg).trans rfl) st.inv rfl)
    | 6, ho => (injection ho with ho; subst ho; have ec : ∀ v, a1.eval (.const v) = v := fun _ => rfl; have ef : ∀ f, a1.eval (.func f) = .func (.func f) #[] #[] := fun _ => rfl; have eg : a1.eval (.tmp 9) = .bool false := st.done 2 9 (hdep ⟨2, .guard⟩ (by simp) rfl) rfl; exact AnyOrder.step_skip rfl ((AnyOrder.wanted_of rfl rfl eg).trans rfl) st.inv rfl)
    | 7, ho => (injection ho with ho; subst ho; have ec : ∀ v, a1.eval (.const v) = v := fun _ => rfl; have ef : ∀ f, a1.eval (.func f) = .func (.func f) #[] #[] := fun _ => rfl; have e0 : a1.eval (.tmp 9) = .bool false := st.done 2 9 (hdep ⟨2, .data⟩ (by simp) rfl) rfl; have e1 : a1.eval (.tmp 13) = undef := st.done 6 13 (hdep ⟨6, .data⟩ (by simp) rfl) rfl; exact AnyOrder.step_value rfl (AnyOrder.wanted_none rfl) (.bool false) (by generalize a1.eval = ρ at ec ef e0 e1 ⊢; simp [execOp, ec, ef, e0, e1, IntWalk.i64_left, go_sem]) st.inv (Below.refl _ _) rfl)
    | 8, ho => (injection ho with ho; subst ho; have ec : ∀ v, a1.eval (.const v) = v := fun _ => rfl; have ef : ∀ f, a1.eval (.func f) = .func (.func f) #[] #[] := fun _ => rfl; have e0 : a1.eval (.tmp 14) = .bool false := st.done 7 14 (hdep ⟨7, .data⟩ (by simp) rfl) rfl; exact AnyOrder.step_value rfl (AnyOrder.wanted_none rfl) (.bool false) (AnyOrder.run_move e0) st.inv (Below.refl _ _) rfl)
    | 9, ho => (injection ho with ho; subst ho; have ec : ∀ v, a1.eval (.const v) = v := fun _ => rfl; have ef : ∀ f, a1.eval (.func f) = .func (.func f) #[] #[] := fun _ => rfl; have eg : a1.eval (.tmp 15) = .bool false := st.done 8 15 (hdep ⟨8, .guard⟩ (by simp) rfl) rfl; exact AnyOrder.step_skip rfl ((AnyOrder.wanted_of rfl rfl eg).trans rfl) st.inv rfl)
    | 10, ho => (injection ho with ho; subst ho; have ec : ∀ v, a1.eval (.const v) = v := fun _ => rfl; have ef : ∀ f, a1.eval (.func f) = .func (.func f) #[] #[] := fun _ => rfl; have eg : a1.eval (.tmp 15) = .bool false := st.done 8 15 (hdep ⟨8, .guard⟩ (by simp) rfl) rfl; exact AnyOrder.step_skip rfl ((AnyOrder.wanted_of rfl rfl eg).trans rfl) st.inv rfl)
    | 11, ho => (injection ho with ho; subst ho; have ec : ∀ v, a1.eval (.const v) = v := fun _ => rfl; have ef : ∀ f, a1.eval (.func f) = .func (.func f) #[] #[] := fun _ => rfl; have eg : a1.eval (.tmp 15) = .bool false := st.done 8 15 (hdep ⟨8, .chain⟩ (by simp) rfl) rfl; exact AnyOrder.step_skip rfl ((AnyOrder.wanted_of rfl rfl eg).trans rfl) st.inv rfl)
    | 12, ho => (injection ho with ho; subst ho; have ec : ∀ v, a1.eval (.const v) = v := fun _ => rfl; have ef : ∀ f, a1.eval (.func f) = .func (.func f) #[] #[] := fun _ => rfl; have eg : a1.eval (.tmp 15) = .bool false := st.done 8 15 (hdep ⟨8, .guard⟩ (by simp) rfl) rfl; exact AnyOrder.step_skip rfl ((AnyOrder.wanted_of rfl rfl eg).trans rfl) st.inv rfl)
    | 13, ho => (injection ho with ho; subst ho; have ec : ∀ v, a1.eval (.const v) = v := fun _ => rfl; have ef : ∀ f, a1.eval (.func f) = .func (.func f) #[] #[] := fun _ => rfl; have eg : a1.eval (.tmp 15) = .bool false := st.done 8 15 (hdep ⟨8, .guard⟩ (by simp) rfl) rfl; exact AnyOrder.step_skip rfl ((AnyOrder.wanted_of rfl rfl eg).trans rfl) st.inv rfl)
    | 14, ho => (injection ho with ho; subst ho; have ec : ∀ v, a1.eval (.const v) = v := fun _ => rfl; have ef : ∀ f, a1.eval (.func f) = .func (.func f) #[] #[] := fun _ => rfl; have eg : a1.eval (.tmp 15) = .bool false := st.done 8 15 (hdep ⟨8, .guard⟩ (by simp) rfl) rfl; exact AnyOrder.step_skip rfl ((AnyOrder.wanted_of rfl rfl eg).trans rfl) st.inv rfl)
    | 15, ho => (injection ho with ho; subst ho; have ec : ∀ v, a1.eval (.const v) = v := fun _ => rfl; have ef : ∀ f, a1.eval (.func f) = .func (.func f) #[] #[] := fun _ => rfl; have eg : a1.eval (.tmp 15) = .bool false := st.done 8 15 (hdep ⟨8, .guard⟩ (by simp) rfl) rfl; exact AnyOrder.step_skip rfl ((AnyOrder.wanted_of rfl rfl eg).trans rfl) st.inv rfl)
    | 16, ho => (injection ho with ho; subst ho; have ec : ∀ v, a1.eval (.const v) = v := fun _ => rfl; have ef : ∀ f, a1.eval (.func f) = .func (.func f) #[] #[] := fun _ => rfl; have e0 : a1.eval (.tmp 15) = .bool false := st.done 8 15 (hdep ⟨8, .data⟩ (by simp) rfl) rfl; have e1 : a1.eval (.tmp 22) = undef := st.done 15 22 (hdep ⟨15, .data⟩ (by simp) rfl) rfl; exact AnyOrder.step_value rfl (AnyOrder.wanted_none rfl) (.bool false) (by generalize a1.eval = ρ at ec ef e0 e1 ⊢; simp [execOp, ec, ef, e0, e1, IntWalk.i64_left, go_sem]) st.inv (Below.refl _ _) rfl)
    | n + 17, ho => exact absurd hin (by omega)
  · intro w3 hJ3
    simp only [AnyOrder.finK, List.take_succ_cons, List.take_zero, List.drop_succ_cons, List.drop_zero, Act.put, List.setIfInBounds_toArray, List.set_cons_zero, List.set_cons_succ]
    have HB3 := Lib.hid (HB.out.trans (hJ3.mono HB.out.size))
    clear HA HB hJ3 CG
    go_wp2_with fail
    go_ret
    exact ⟨rfl, HB3.out⟩
set_option maxRecDepth 100000 in
set_option maxHeartbeats 1600000 in
theorem rgood_early (c : Cfg) (k now : Int) (hk : isU k) (w : World) (hc : okc c = true) (h1 : now < stp k) : Calls Try.prog 11 #[c.V, .int .u64 k, .int .i64 now] w fun e w' => e = .returned (.bool (goodK c k now)) ∧ Below w.heap.size w w' := by
  have HA := Lib.hid (CAt.new w c)
  have HB := Lib.hid (below_new w (.cells c.cells 24))
  have CG := Lib.hid (fun W => by have h := good_any c W; rwa [hc] at h)
  have CS := Lib.hid (fun W => rstamp_any k hk W)
  rw [show goodK c k now = false by unfold goodK; rw [hc]; simp; omega]
  have D1 : Hid (decide (stp k ≤ now) = false) := Lib.hid (by simp; omega)
  clear hc hk h1
  generalize stp k = a at *
  go_enter Try.func11, Try.ntmps11
  go_upto_region 1 with fail
  obtain ⟨W, hW⟩ : ∃ W, w.alloc (.cells c.cells 24) = W := ⟨_, rfl⟩
  rw [hW] at HA HB ⊢; clear hW
  refine AnyOrder.region_kinds2 17 [.eq (c.V), .eq (.bool true), .eq (.bool true), .eq (.int .i64 now), .eq (.int .u64 k), .eq (.int .i64 a), .eq (.bool false), .eq (.bool false), .eq (.bool false), .eq (undef), .eq (undef), .eq (undef), .eq (undef), .eq (undef), .eq (undef), .eq (undef), .eq (.bool false)] (fun wx => Below W.heap.size W wx) (by kernel_rfl) (by kernel_rfl) rfl (by kernel_rfl) (below_drewN (Below.refl _ _) 1) (fun p _ _ hp => by simp at hp) ?_ ?_
  · intro i o listed a1 w2 hin ho st hl hdep
    match i, ho with
    | 0, ho => (injection ho with ho; subst ho; have ec : ∀ v, a1.eval (.const v) = v := fun _ => rfl; have ef : ∀ f, a1.eval (.func f) = .func (.func f) #[] #[] := fun _ => rfl; have e0 : a1.eval (.tmp 3) = ptr w.heap.size 0 := st.old hl 3 (by kernel_rfl); exact AnyOrder.step_value rfl (AnyOrder.wanted_none rfl) (c.V) (run_load_cfg e0 (CAt.step HA.out st.inv)) st.inv (Below.refl _ _) rfl)
    | 1, ho => (injection ho with ho; subst ho; have ec : ∀ v, a1.eval (.const v) = v := fun _ => rfl; have ef : ∀ f, a1.eval (.func f) = .func (.func f) #[] #[] := fun _ => rfl; have e0 : a1.eval (.tmp 7) = c.V := st.done 0 7 (hdep ⟨0, .data⟩ (by simp) rfl) rfl; exact AnyOrder.step_call rfl (AnyOrder.wanted_none rfl) 9 #[c.V] (by generalize a1.eval = ρ at ec ef e0 ⊢; simp [execOp, ec, ef, e0, go_sem]) ((CG.out w2).mono (fun e w3 h => by obtain ⟨rfl, hb⟩ := h; exact ⟨_, rfl, st.inv.trans (hb.mono st.inv.size), hb, rfl⟩)))
    | 2, ho => (injection ho with ho; subst ho; have ec : ∀ v, a1.eval (.const v) = v := fun _ => rfl; have ef : ∀ f, a1.eval (.func f) = .func (.func f) #[] #[] := fun _ => rfl; have e0 : a1.eval (.tmp 8) = .bool true := st.done 1 8 (hdep ⟨1, .data⟩ (by simp) rfl) rfl; exact AnyOrder.step_value rfl (AnyOrder.wanted_none rfl) (.bool true) (AnyOrder.run_move e0) st.inv (Below.refl _ _) rfl)
    | 3, ho => (injection ho with ho; subst ho; have ec : ∀ v, a1.eval (.const v) = v := fun _ => rfl; have ef : ∀ f, a1.eval (.func f) = .func (.func f) #[] #[] := fun _ => rfl; have e0 : a1.eval (.tmp 2) = .int .i64 now := st.old hl 2 (by kernel_rfl); have eg : a1.eval (.tmp 9) = .bool true := st.done 2 9 (hdep ⟨2, .guard⟩ (by simp) rfl) rfl; exact AnyOrder.step_value rfl ((AnyOrder.wanted_of rfl rfl eg).trans rfl) (.int .i64 now) (AnyOrder.run_move e0) st.inv (Below.refl _ _) rfl)
    | 4, ho => (injection ho with ho; subst ho; have ec : ∀ v, a1.eval (.const v) = v := fun _ => rfl; have ef : ∀ f, a1.eval (.func f) = .func (.func f) #[] #[] := fun _ => rfl; have e0 : a1.eval (.tmp 1) = .int .u64 k := st.old hl 1 (by kernel_rfl); have eg : a1.eval (.tmp 9) = .bool true := st.done 2 9 (hdep ⟨2, .guard⟩ (by simp) rfl) rfl; exact AnyOrder.step_value rfl ((AnyOrder.wanted_of rfl rfl eg).trans rfl) (.int .u64 k) (AnyOrder.run_move e0) st.inv (Below.refl _ _) rfl)
    | 5, ho => (injection ho with ho; subst ho; have ec : ∀ v, a1.eval (.const v) = v := fun _ => rfl; have ef : ∀ f, a1.eval (.func f) = .func (.func f) #[] #[] := fun _ => rfl; have e0 : a1.eval (.tmp 11) = .int .u64 k := st.done 4 11 (hdep ⟨4, .data⟩ (by simp) rfl) rfl; have eg : a1.eval (.tmp 9) = .bool true := st.done 2 9 (hdep ⟨2, .chain⟩ (by simp) rfl) rfl; exact AnyOrder.step_call rfl ((AnyOrder.wanted_of rfl rfl eg).trans rfl) 13 #[.int .u64 k] (by generalize a1.eval = ρ at ec ef e0 ⊢; simp [execOp, ec, ef, e0, go_sem]) (((CS.out w2).mono (fun e w4 h => (show e = .returned (.int .i64 a) ∧ Below w2.heap.size w2 w4 from ⟨h.1, h.2 ▸ Below.refl _ _⟩))).mono (fun e w3 h => by obtain ⟨rfl, hb⟩ := h; exact ⟨_, rfl, st.inv.trans (hb.mono st.inv.size), hb, rfl⟩)))
    | 6, ho => (injection ho with ho; subst ho; have ec : ∀ v, a1.eval (.const v) = v := fun _ => rfl; have ef : ∀ f, a1.eval (.func f) = .func (.func f) #[] #[] := fun _ => rfl; have e0 : a1.eval (.tmp 10) = .int .i64 now := st.done 3 10 (hdep ⟨3, .data⟩ (by simp) rfl) rfl; have e1 : a1.eval (.tmp 12) = .int .i64 a := st.done 5 12 (hdep ⟨5, .data⟩ (by simp) rfl) rfl; have eg : a1.eval (.tmp 9) = .bool true := st.done 2 9 (hdep ⟨2, .guard⟩ (by simp) rfl) rfl; exact AnyOrder.step_value rfl ((AnyOrder.wanted_of rfl rfl eg).trans rfl) (.bool false) (by generalize a1.eval = ρ at ec ef e0 e1 ⊢; simp [execOp, ec, ef, e0, e1, IntWalk.i64_left, D1.out, go_sem]) st.inv (Below.refl _ _) rfl)
    | 7, ho => (injection ho with ho; subst ho; have ec : ∀ v, a1.eval (.const v) = v := fun _ => rfl; have ef : ∀ f, a1.eval (.func f) = .func (.func f) #[] #[] := fun _ => rfl; have e0 : a1.eval (.tmp 9) = .bool true := st.done 2 9 (hdep ⟨2, .data⟩ (by simp) rfl) rfl; have e1 : a1.eval (.tmp 13) = .bool false := st.done 6 13 (hdep ⟨6, .data⟩ (by simp) rfl) rfl; exact AnyOrder.step_value rfl (AnyOrder.wanted_none rfl) (.bool false) (by generalize a1.eval = ρ at ec ef e0 e1 ⊢; simp [execOp, ec, ef, e0, e1, IntWalk.i64_left, go_sem]) st.inv (Below.refl _ _) rfl)
    | 8, ho => (injection ho with ho; subst ho; have ec : ∀ v, a1.eval (.const v) = v := fun _ => rfl; have ef : ∀ f, a1.eval (.func f) = .func (.func f) #[] #[] := fun _ => rfl; have e0 : a1.eval (.tmp 14) = .bool false := st.done 7 14 (hdep ⟨7, .data⟩ (by simp) rfl) rfl; exact AnyOrder.step_value rfl (AnyOrder.wanted_none rfl) (.bool false) (AnyOrder.run_move e0) st.inv (Below.refl _ _) rfl)
    | 9, ho => (injection ho with ho; subst ho; have ec : ∀ v, a1.eval (.const v) = v := fun _ => rfl; have ef : ∀ f, a1.eval (.func f) = .func (.func f) #[] #[] := fun _ => rfl; have eg : a1.eval (.tmp 15) = .bool false := st.done 8 15 (hdep ⟨8, .guard⟩ (by simp) rfl) rfl; exact AnyOrder.step_skip rfl ((AnyOrder.wanted_of rfl rfl eg).trans rfl) st.inv rfl)
    | 10, ho => (injection ho with ho; subst ho; have ec : ∀ v, a1.eval (.const v) = v := fun _ => rfl; have ef : ∀ f, a1.eval (.func f) = .func (.func f) #[] #[] := fun _ => rfl; have eg : a1.eval (.tmp 15) = .bool false := st.done 8 15 (hdep ⟨8, .guard⟩ (by simp) rfl) rfl; exact AnyOrder.step_skip rfl ((AnyOrder.wanted_of rfl rfl eg).trans rfl) st.inv rfl)
    | 11, ho => (injection ho with ho; subst ho; have ec : ∀ v, a1.eval (.const v) = v := fun _ => rfl; have ef : ∀ f, a1.eval (.func f) = .func (.func f) #[] #[] := fun _ => rfl; have eg : a1.eval (.tmp 15) = .bool false := st.done 8 15 (hdep ⟨8, .chain⟩ (by simp) rfl) rfl; exact AnyOrder.step_skip rfl ((AnyOrder.wanted_of rfl rfl eg).trans rfl) st.inv rfl)
    | 12, ho => (injection ho with ho; subst ho; have ec : ∀ v, a1.eval (.const v) = v := fun _ => rfl; have ef : ∀ f, a1.eval (.func f) = .func (.func f) #[] #[] := fun _ => rfl; have eg : a1.eval (.tmp 15) = .bool false := st.done 8 15 (hdep ⟨8, .guard⟩ (by simp) rfl) rfl; exact AnyOrder.step_skip rfl ((AnyOrder.wanted_of rfl rfl eg).trans rfl) st.inv rfl)
    | 13, ho => (injection ho with ho; subst ho; have ec : ∀ v, a1.eval (.const v) = v := fun _ => rfl; have ef : ∀ f, a1.eval (.func f) = .func (.func f) #[] #[] := fun _ => rfl; have eg : a1.eval (.tmp 15) = .bool false := st.done 8 15 (hdep ⟨8, .guard⟩ (by simp) rfl) rfl; exact AnyOrder.step_skip rfl ((AnyOrder.wanted_of rfl rfl eg).trans rfl) st.inv rfl)
    | 14, ho => (injection ho with ho; subst ho; have ec : ∀ v, a1.eval (.const v) = v := fun _ => rfl; have ef : ∀ f, a1.eval (.func f) = .func (.func f) #[] #[] := fun _ => rfl; have eg : a1.eval (.tmp 15) = .bool false := st.done 8 15 (hdep ⟨8, .guard⟩ (by simp) rfl) rfl; exact AnyOrder.step_skip rfl ((AnyOrder.wanted_of rfl rfl eg).trans rfl) st.inv rfl)
    | 15, ho => (injection ho with ho; subst ho; have ec : ∀ v, a1.eval (.const v) = v := fun _ => rfl; have ef : ∀ f, a1.eval (.func f) = .func (.func f) #[] #[] := fun _ => rfl; have eg : a1.eval (.tmp 15) = .bool false := st.done 8 15 (hdep ⟨8, .guard⟩ (by simp) rfl) rfl; exact AnyOrder.step_skip rfl ((AnyOrder.wanted_of rfl rfl eg).trans rfl) st.inv rfl)
    | 16, ho => (injection ho with ho; subst ho; have ec : ∀ v, a1.eval (.const v) = v := fun _ => rfl; have ef : ∀ f, a1.eval (.func f) = .func (.func f) #[] #[] := fun _ => rfl; have e0 : a1.eval (.tmp 15) = .bool false := st.done 8 15 (hdep ⟨8, .data⟩ (by simp) rfl) rfl; have e1 : a1.eval (.tmp 22) = undef := st.done 15 22 (hdep ⟨15, .data⟩ (by simp) rfl) rfl; exact AnyOrder.step_value rfl (AnyOrder.wanted_none rfl) (.bool false) (by generalize a1.eval = ρ at ec ef e0 e1 ⊢; simp [execOp, ec, ef, e0, e1, IntWalk.i64_left, go_sem]) st.inv (Below.refl _ _) rfl)
    | n + 17, ho => exact absurd hin (by omega)
  · intro w3 hJ3
    simp only [AnyOrder.finK, List.take_succ_cons, List.take_zero, List.drop_succ_cons, List.drop_zero, Act.put, List.setIfInBounds_toArray, List.set_cons_zero, List.set_cons_succ]
    have HB3 := Lib.hid (HB.out.trans (hJ3.mono HB.out.size))
    clear HA HB hJ3 CG
    go_wp2_with fail
    go_ret
    exact ⟨rfl, HB3.out⟩
set_option maxRecDepth 100000 in
set_option maxHeartbeats 1600000 in
theorem rgood_late (c : Cfg) (k now : Int) (hk : isU k) (hn : isI now) (w : World) (hc : okc c = true) (h1 : stp k ≤ now) : Calls Try.prog 11 #[c.V, .int .u64 k, .int .i64 now] w fun e w' => e = .returned (.bool (goodK c k now)) ∧ Below w.heap.size w w' := by
  have HA := Lib.hid (CAt.new w c)
  have HB := Lib.hid (below_new w (.cells c.cells 24))
  have CG := Lib.hid (fun W => by have h := good_any c W; rwa [hc] at h)
  have CS := Lib.hid (fun W => rstamp_any k hk W)
  obtain ⟨t, ht⟩ : ∃ t : Bool, goodK c k now = t := ⟨_, rfl⟩
  rw [ht]
  have D1 : Hid (decide (stp k ≤ now) = true) := Lib.hid (by simpa using h1)
  have hs := stp_in hk
  have D2 : Hid (decide (now - stp k ≤ c.get 6) = t) := Lib.hid (by
    rw [← ht]; unfold goodK lastK; rw [hc, Bool.eq_iff_iff]; simp; omega)
  have D3 : Hid (IntKind.i64.wrap (now - stp k) = now - stp k) := Lib.hid (IntWalk.i64_in _ (by unfold isI at hn; omega))
  clear hc hk h1 hs ht hn
  generalize stp k = a at *
  go_enter Try.func11, Try.ntmps11
  go_upto_region 1 with fail
  obtain ⟨W, hW⟩ : ∃ W, w.alloc (.cells c.cells 24) = W := ⟨_, rfl⟩
  rw [hW] at HA HB ⊢; clear hW
  refine AnyOrder.region_kinds2 17 [.eq (c.V), .eq (.bool true), .eq (.bool true), .eq (.int .i64 now), .eq (.int .u64 k), .eq (.int .i64 a), .eq (.bool true), .eq (.bool true), .eq (.bool true), .eq (.int .i64 now), .eq (.int .u64 k), .eq (.int .i64 a), .eq (.int .i64 (now - a)), .eq (ptr w.heap.size 6), .eq (.int .i64 (c.get 6)), .eq (.bool t), .eq (.bool t)] (fun wx => Below W.heap.size W wx) (by kernel_rfl) (by kernel_rfl) rfl (by kernel_rfl) (below_drewN (Below.refl _ _) 1) (fun p _ _ hp => by simp at hp) ?_ ?_
  · intro i o listed a1 w2 hin ho st hl hdep
    match i, ho with
    | 0, ho => (injection ho with ho; subst ho; have ec : ∀ v, a1.eval (.const v) = v := fun _ => rfl; have ef : ∀ f, a1.eval (.func f) = .func (.func f) #[] #[] := fun _ => rfl; have e0 : a1.eval (.tmp 3) = ptr w.heap.size 0 := st.old hl 3 (by kernel_rfl); exact AnyOrder.step_value rfl (AnyOrder.wanted_none rfl) (c.V) (run_load_cfg e0 (CAt.step HA.out st.inv)) st.inv (Below.refl _ _) rfl)
    | 1, ho => (injection ho with ho; subst ho; have ec : ∀ v, a1.eval (.const v) = v := fun _ => rfl; have ef : ∀ f, a1.eval (.func f) = .func (.func f) #[] #[] := fun _ => rfl; have e0 : a1.eval (.tmp 7) = c.V := st.done 0 7 (hdep ⟨0, .data⟩ (by simp) rfl) rfl; exact AnyOrder.step_call rfl (AnyOrder.wanted_none rfl) 9 #[c.V] (by generalize a1.eval = ρ at ec ef e0 ⊢; simp [execOp, ec, ef, e0, go_sem]) ((CG.out w2).mono (fun e w3 h => by obtain ⟨rfl, hb⟩ := h; exact ⟨_, rfl, st.inv.trans (hb.mono st.inv.size), hb, rfl⟩)))
    | 2, ho => (injection ho with ho; subst ho; have ec : ∀ v, a1.eval (.const v) = v := fun _ => rfl; have ef : ∀ f, a1.eval (.func f) = .func (.func f) #[] #[] := fun _ => rfl; have e0 : a1.eval (.tmp 8) = .bool true := st.done 1 8 (hdep ⟨1, .data⟩ (by simp) rfl) rfl; exact AnyOrder.step_value rfl (AnyOrder.wanted_none rfl) (.bool true) (AnyOrder.run_move e0) st.inv (Below.refl _ _) rfl)
    | 3, ho => (injection ho with ho; subst ho; have ec : ∀ v, a1.eval (.const v) = v := fun _ => rfl; have ef : ∀ f, a1.eval (.func f) = .func (.func f) #[] #[] := fun _ => rfl; have e0 : a1.eval (.tmp 2) = .int .i64 now := st.old hl 2 (by kernel_rfl); have eg : a1.eval (.tmp 9) = .bool true := st.done 2 9 (hdep ⟨2, .guard⟩ (by simp) rfl) rfl; exact AnyOrder.step_value rfl ((AnyOrder.wanted_of rfl rfl eg).trans rfl) (.int .i64 now) (AnyOrder.run_move e0) st.inv (Below.refl _ _) rfl)
    | 4, ho => (injection ho with ho; subst ho; have ec : ∀ v, a1.eval (.const v) = v := fun _ => rfl; have ef : ∀ f, a1.eval (.func f) = .func (.func f) #[] #[] := fun _ => rfl; have e0 : a1.eval (.tmp 1) = .int .u64 k := st.old hl 1 (by kernel_rfl); have eg : a1.eval (.tmp 9) = .bool true := st.done 2 9 (hdep ⟨2, .guard⟩ (by simp) rfl) rfl; exact AnyOrder.step_value rfl ((AnyOrder.wanted_of rfl rfl eg).trans rfl) (.int .u64 k) (AnyOrder.run_move e0) st.inv (Below.refl _ _) rfl)
    | 5, ho => (injection ho with ho; subst ho; have ec : ∀ v, a1.eval (.const v) = v := fun _ => rfl; have ef : ∀ f, a1.eval (.func f) = .func (.func f) #[] #[] := fun _ => rfl; have e0 : a1.eval (.tmp 11) = .int .u64 k := st.done 4 11 (hdep ⟨4, .data⟩ (by simp) rfl) rfl; have eg : a1.eval (.tmp 9) = .bool true := st.done 2 9 (hdep ⟨2, .chain⟩ (by simp) rfl) rfl; exact AnyOrder.step_call rfl ((AnyOrder.wanted_of rfl rfl eg).trans rfl) 13 #[.int .u64 k] (by generalize a1.eval = ρ at ec ef e0 ⊢; simp [execOp, ec, ef, e0, go_sem]) (((CS.out w2).mono (fun e w4 h => (show e = .returned (.int .i64 a) ∧ Below w2.heap.size w2 w4 from ⟨h.1, h.2 ▸ Below.refl _ _⟩))).mono (fun e w3 h => by obtain ⟨rfl, hb⟩ := h; exact ⟨_, rfl, st.inv.trans (hb.mono st.inv.size), hb, rfl⟩)))
    | 6, ho => (injection ho with ho; subst ho; have ec : ∀ v, a1.eval (.const v) = v := fun _ => rfl; have ef : ∀ f, a1.eval (.func f) = .func (.func f) #[] #[] := fun _ => rfl; have e0 : a1.eval (.tmp 10) = .int .i64 now := st.done 3 10 (hdep ⟨3, .data⟩ (by simp) rfl) rfl; have e1 : a1.eval (.tmp 12) = .int .i64 a := st.done 5 12 (hdep ⟨5, .data⟩ (by simp) rfl) rfl; have eg : a1.eval (.tmp 9) = .bool true := st.done 2 9 (hdep ⟨2, .guard⟩ (by simp) rfl) rfl; exact AnyOrder.step_value rfl ((AnyOrder.wanted_of rfl rfl eg).trans rfl) (.bool true) (by generalize a1.eval = ρ at ec ef e0 e1 ⊢; simp [execOp, ec, ef, e0, e1, IntWalk.i64_left, D1.out, go_sem]) st.inv (Below.refl _ _) rfl)
    | 7, ho => (injection ho with ho; subst ho; have ec : ∀ v, a1.eval (.const v) = v := fun _ => rfl; have ef : ∀ f, a1.eval (.func f) = .func (.func f) #[] #[] := fun _ => rfl; have e0 : a1.eval (.tmp 9) = .bool true := st.done 2 9 (hdep ⟨2, .data⟩ (by simp) rfl) rfl; have e1 : a1.eval (.tmp 13) = .bool true := st.done 6 13 (hdep ⟨6, .data⟩ (by simp) rfl) rfl; exact AnyOrder.step_value rfl (AnyOrder.wanted_none rfl) (.bool true) (by generalize a1.eval = ρ at ec ef e0 e1 ⊢; simp [execOp, ec, ef, e0, e1, IntWalk.i64_left, go_sem]) st.inv (Below.refl _ _) rfl)
    | 8, ho => (injection ho with ho; subst ho; have ec : ∀ v, a1.eval (.const v) = v := fun _ => rfl; have ef : ∀ f, a1.eval (.func f) = .func (.func f) #[] #[] := fun _ => rfl; have e0 : a1.eval (.tmp 14) = .bool true := st.done 7 14 (hdep ⟨7, .data⟩ (by simp) rfl) rfl; exact AnyOrder.step_value rfl (AnyOrder.wanted_none rfl) (.bool true) (AnyOrder.run_move e0) st.inv (Below.refl _ _) rfl)
    | 9, ho => (injection ho with ho; subst ho; have ec : ∀ v, a1.eval (.const v) = v := fun _ => rfl; have ef : ∀ f, a1.eval (.func f) = .func (.func f) #[] #[] := fun _ => rfl; have e0 : a1.eval (.tmp 2) = .int .i64 now := st.old hl 2 (by kernel_rfl); have eg : a1.eval (.tmp 15) = .bool true := st.done 8 15 (hdep ⟨8, .guard⟩ (by simp) rfl) rfl; exact AnyOrder.step_value rfl ((AnyOrder.wanted_of rfl rfl eg).trans rfl) (.int .i64 now) (AnyOrder.run_move e0) st.inv (Below.refl _ _) rfl)
    | 10, ho => (injection ho with ho; subst ho; have ec : ∀ v, a1.eval (.const v) = v := fun _ => rfl; have ef : ∀ f, a1.eval (.func f) = .func (.func f) #[] #[] := fun _ => rfl; have e0 : a1.eval (.tmp 1) = .int .u64 k := st.old hl 1 (by kernel_rfl); have eg : a1.eval (.tmp 15) = .bool true := st.done 8 15 (hdep ⟨8, .guard⟩ (by simp) rfl) rfl; exact AnyOrder.step_value rfl ((AnyOrder.wanted_of rfl rfl eg).trans rfl) (.int .u64 k) (AnyOrder.run_move e0) st.inv (Below.refl _ _) rfl)
    | 11, ho => (injection ho with ho; subst ho; have ec : ∀ v, a1.eval (.const v) = v := fun _ => rfl; have ef : ∀ f, a1.eval (.func f) = .func (.func f) #[] #[] := fun _ => rfl; have e0 : a1.eval (.tmp 17) = .int .u64 k := st.done 10 17 (hdep ⟨10, .data⟩ (by simp) rfl) rfl; have eg : a1.eval (.tmp 15) = .bool true := st.done 8 15 (hdep ⟨8, .chain⟩ (by simp) rfl) rfl; exact AnyOrder.step_call rfl ((AnyOrder.wanted_of rfl rfl eg).trans rfl) 13 #[.int .u64 k] (by generalize a1.eval = ρ at ec ef e0 ⊢; simp [execOp, ec, ef, e0, go_sem]) (((CS.out w2).mono (fun e w4 h => (show e = .returned (.int .i64 a) ∧ Below w2.heap.size w2 w4 from ⟨h.1, h.2 ▸ Below.refl _ _⟩))).mono (fun e w3 h => by obtain ⟨rfl, hb⟩ := h; exact ⟨_, rfl, st.inv.trans (hb.mono st.inv.size), hb, rfl⟩)))
    | 12, ho => (injection ho with ho; subst ho; have ec : ∀ v, a1.eval (.const v) = v := fun _ => rfl; have ef : ∀ f, a1.eval (.func f) = .func (.func f) #[] #[] := fun _ => rfl; have e0 : a1.eval (.tmp 16) = .int .i64 now := st.done 9 16 (hdep ⟨9, .data⟩ (by simp) rfl) rfl; have e1 : a1.eval (.tmp 18) = .int .i64 a := st.done 11 18 (hdep ⟨11, .data⟩ (by simp) rfl) rfl; have eg : a1.eval (.tmp 15) = .bool true := st.done 8 15 (hdep ⟨8, .guard⟩ (by simp) rfl) rfl; exact AnyOrder.step_value rfl ((AnyOrder.wanted_of rfl rfl eg).trans rfl) (.int .i64 (now - a)) (by generalize a1.eval = ρ at ec ef e0 e1 ⊢; simp [execOp, ec, ef, e0, e1, IntWalk.i64_left, D3.out, go_sem]) st.inv (Below.refl _ _) rfl)
    | 13, ho => (injection ho with ho; subst ho; have ec : ∀ v, a1.eval (.const v) = v := fun _ => rfl; have ef : ∀ f, a1.eval (.func f) = .func (.func f) #[] #[] := fun _ => rfl; have e0 : a1.eval (.tmp 3) = ptr w.heap.size 0 := st.old hl 3 (by kernel_rfl); have eg : a1.eval (.tmp 15) = .bool true := st.done 8 15 (hdep ⟨8, .guard⟩ (by simp) rfl) rfl; exact AnyOrder.step_value rfl ((AnyOrder.wanted_of rfl rfl eg).trans rfl) (ptr w.heap.size 6) (by generalize a1.eval = ρ at ec ef e0 ⊢; simp [execOp, ec, ef, e0, IntWalk.i64_left, go_sem]) st.inv (Below.refl _ _) rfl)
    | 14, ho => (injection ho with ho; subst ho; have ec : ∀ v, a1.eval (.const v) = v := fun _ => rfl; have ef : ∀ f, a1.eval (.func f) = .func (.func f) #[] #[] := fun _ => rfl; have e0 : a1.eval (.tmp 20) = ptr w.heap.size 6 := st.done 13 20 (hdep ⟨13, .data⟩ (by simp) rfl) rfl; have eg : a1.eval (.tmp 15) = .bool true := st.done 8 15 (hdep ⟨8, .guard⟩ (by simp) rfl) rfl; exact AnyOrder.step_value rfl ((AnyOrder.wanted_of rfl rfl eg).trans rfl) (.int .i64 (c.get 6)) (by have hk := CAt.get (CAt.step HA.out st.inv) (k := 6) (by decide); generalize a1.eval = ρ at ec ef e0 ⊢; simp [execOp, e0, go_sem, hk]) st.inv (Below.refl _ _) rfl)
    | 15, ho => (injection ho with ho; subst ho; have ec : ∀ v, a1.eval (.const v) = v := fun _ => rfl; have ef : ∀ f, a1.eval (.func f) = .func (.func f) #[] #[] := fun _ => rfl; have e0 : a1.eval (.tmp 19) = .int .i64 (now - a) := st.done 12 19 (hdep ⟨12, .data⟩ (by simp) rfl) rfl; have e1 : a1.eval (.tmp 21) = .int .i64 (c.get 6) := st.done 14 21 (hdep ⟨14, .data⟩ (by simp) rfl) rfl; have eg : a1.eval (.tmp 15) = .bool true := st.done 8 15 (hdep ⟨8, .guard⟩ (by simp) rfl) rfl; exact AnyOrder.step_value rfl ((AnyOrder.wanted_of rfl rfl eg).trans rfl) (.bool t) (by generalize a1.eval = ρ at ec ef e0 e1 ⊢; simp [execOp, ec, ef, e0, e1, IntWalk.i64_left, D2.out, go_sem]) st.inv (Below.refl _ _) rfl)
    | 16, ho => (injection ho with ho; subst ho; have ec : ∀ v, a1.eval (.const v) = v := fun _ => rfl; have ef : ∀ f, a1.eval (.func f) = .func (.func f) #[] #[] := fun _ => rfl; have e0 : a1.eval (.tmp 15) = .bool true := st.done 8 15 (hdep ⟨8, .data⟩ (by simp) rfl) rfl; have e1 : a1.eval (.tmp 22) = .bool t := st.done 15 22 (hdep ⟨15, .data⟩ (by simp) rfl) rfl; exact AnyOrder.step_value rfl (AnyOrder.wanted_none rfl) (.bool t) (by generalize a1.eval = ρ at ec ef e0 e1 ⊢; simp [execOp, ec, ef, e0, e1, IntWalk.i64_left, go_sem]) st.inv (Below.refl _ _) rfl)
    | n + 17, ho => exact absurd hin (by omega)
  · intro w3 hJ3
    simp only [AnyOrder.finK, List.take_succ_cons, List.take_zero, List.drop_succ_cons, List.drop_zero, Act.put, List.setIfInBounds_toArray, List.set_cons_zero, List.set_cons_succ]
    have HB3 := Lib.hid (HB.out.trans (hJ3.mono HB.out.size))
    clear HA HB hJ3 CG
    go_wp2_with fail
    go_ret
    exact ⟨rfl, HB3.out⟩
/-- Good, the document's own -/
theorem rkgood_any (c : Cfg) (k now : Int) (hk : isU k) (hn : isI now) (w : World) : Calls Try.prog 11 #[c.V, .int .u64 k, .int .i64 now] w fun e w' => e = .returned (.bool (goodK c k now)) ∧ Below w.heap.size w w' := by
  cases hc : okc c
  · exact rgood_no c k now hk w hc
  · by_cases h1 : now < stp k
    · exact rgood_early c k now hk w hc h1
    · exact rgood_late c k now hk hn w hc (by omega)
end Go.Proofs.Ytedogbkkophghaa
