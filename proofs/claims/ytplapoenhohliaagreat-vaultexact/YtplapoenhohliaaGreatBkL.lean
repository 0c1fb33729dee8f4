import Derived.Test.YtplapoenhohliaaGreatBkK
import Derived.Test.YtplapoenhohliaaGreatShH
namespace Go.Proofs.YtplapoenhohliaaGreat
open Go.RowKit Go.Lib
open Sh.Plain (KV get put del Rise)
set_option linter.unusedVariables false
set_option linter.unusedSimpArgs false
theorem rd_cell {w : World} {xs : List K} {O : Option Addr} {n c j : Nat} (h : Sh.Rd Sh.eC w (.slice O n c) xs) (hj : j < xs.length) :
  ∃ b off, O = some ⟨b, off, none⟩ ∧ b < w.heap.size ∧ w.rangeAt b (off + j * 8) xs[j].cells.toList := by
 obtain ⟨O', cap, e, _, k⟩ := h
 injection e with e1 _ _
 subst e1
 obtain ⟨b, off, e2, hlt, k2⟩ := k j xs[j] (List.getElem?_eq_getElem hj)
 exact ⟨b, off, e2, hlt, fun i u hu => k2 i u hu⟩
theorem rng_below {w w' : World} {b off : Nat} {cs : List Value} (h : w.rangeAt b off cs) (hlt : b < w.heap.size) (hb : Below w.heap.size w w') : w'.rangeAt b off cs := fun j u hu => by
 rw [hb.cell (p := ⟨b, off + j, none⟩) hlt]; exact h j u hu
theorem rd_len {w : World} {u : Value} {xs : List K} (h : Sh.Rd Sh.eC w u xs) : ∃ O c, u = .slice O xs.length c := by
 obtain ⟨O, c, rfl, _⟩ := h
 exact ⟨O, c, rfl⟩
theorem run_neq26b {ρ : Operand → Value} {w : World} {d : Option Tmp} {t t2 : TypeId} {pos : String} {af : Array Edge} {gd : Option (Nat × Bool)} {a b : Operand} {x y : K} {v : Bool} (e1 : ρ a = x.V) (e2 : ρ b = y.V) (h : (!x.beq y) = v) : (execOp ρ { dst := d, op := Op.binOp .neq 46 a b t2, type := t, pos := pos, after := af, guard := gd }).run Tryz.prog w = .ok (.value (.bool v)) w := by
 subst h; exact run_neq26 e1 e2
def sameTo (xs ys : List K) (j : Nat) : Prop := ∀ i, i < j → xs[i]? = ys[i]?
set_option maxRecDepth 100000 in
set_option maxHeartbeats 1600000 in
theorem equal_rows {w : World} {u v : Value} {xs ys : List K} (hu : Sh.Rd Sh.eC w u xs) (hv : Sh.Rd Sh.eC w v ys) (hn : xs.length ≤ 70000) : Calls Tryz.prog 81 #[u, v] w (Yes w (decide (xs = ys))) := by
 obtain ⟨O, cu, rfl⟩ := rd_len hu
 obtain ⟨P, cv, rfl⟩ := rd_len hv
 by_cases hl : xs.length = ys.length
 ·have HU := Lib.hid hu; have HV := Lib.hid hv; have HL := Lib.hid hl; have HN := Lib.hid hn
  clear hu hv hn
  rw [hl] at HU HN ⊢
  obtain ⟨n, hnn⟩ : ∃ n, ys.length = n := ⟨_, rfl⟩
  rw [hnn] at HU HV HN HL ⊢
  have HNN := Lib.hid hnn
  clear hl hnn
  go_enter Tryz.func81, Tryz.ntmps81
  go_wp2_with fail
  go_loopg [13] n (fun gh sc wx => ∃ j : Nat, j ≤ n ∧ gh = n - j ∧ sc = .int .i64 (j : Int) ∧ Below w.heap.size w wx ∧ sameTo xs ys j)
  case atStart => exact ⟨0, Nat.zero_le _, rfl, rfl, Below.refl _ _, fun i hi => absurd hi (by omega)⟩
  case round =>
   obtain ⟨j, hj, hg, rfl, hb, hsm⟩ := hrel
   have HG := Lib.hid hg; have HB := Lib.hid hb; have HS := Lib.hid hsm; clear hg hb hsm
   by_cases hlt : j < n
   ·have h1 : j < xs.length := by rw [HL.out]; exact hlt
    have h2 : j < ys.length := by rw [HNN.out]; exact hlt
    obtain ⟨b1, o1, rfl, l1, k1⟩ := rd_cell HU.out h1
    obtain ⟨b2, o2, rfl, l2, k2⟩ := rd_cell HV.out h2
    have f1 : xs[j]? = some xs[j] := List.getElem?_eq_getElem h1
    have f2 : ys[j]? = some ys[j] := List.getElem?_eq_getElem h2
    generalize xs[j] = x at *
    generalize ys[j] = y at *
    have K1 := Lib.hid (rng_below k1 l1 HB.out); have K2 := Lib.hid (rng_below k2 l2 HB.out)
    have L1 : Hid (b1 < wr.heap.size) := Lib.hid (Nat.lt_of_lt_of_le l1 HB.out.size)
    have L2 : Hid (b2 < wr.heap.size) := Lib.hid (Nat.lt_of_lt_of_le l2 HB.out.size)
    have F1 := Lib.hid f1; have F2 := Lib.hid f2
    clear k1 k2 l1 l2 f1 f2 h1 h2
    have b3 : (j : Int) < (n : Int) := by omega
    have b4 : (0 : Int) ≤ (j : Int) := by omega
    go_upto_region 6 with fail
    cases hxy : x.beq y
    ·have HXY := Lib.hid hxy; clear hxy
     refine AnyOrder.region_kinds2 9 [.eq (.slice (some ⟨b1, o1, none⟩) n cu), .eq (.int .i64 (j : Int)), .eq (ptr b1 (o1 + j * 8)), .eq (x.V), .eq (.slice (some ⟨b2, o2, none⟩) n cv), .eq (.int .i64 (j : Int)), .eq (ptr b2 (o2 + j * 8)), .eq (y.V), .eq (.bool true)] (fun wx => Below wr.heap.size wr wx) (by kernel_rfl) (by kernel_rfl) rfl (by kernel_rfl) (below_drewN (Below.refl _ _) 1) (fun p _ _ hp => by simp at hp) ?_ ?_
     ·intro i o listed a1 w2 hin ho st hl hdep
      match i, ho with
      | 0, ho => (injection ho with ho; subst ho; have e0 : a1.eval (.tmp 0) = .slice (some ⟨b1, o1, none⟩) n cu := st.old hl 0 (by kernel_rfl); exact AnyOrder.sv rfl rfl (.slice (some ⟨b1, o1, none⟩) n cu) (AnyOrder.run_move e0) st.inv (Below.refl _ _) rfl)
      | 1, ho => (injection ho with ho; subst ho; have e0 : a1.eval (.tmp 5) = .int .i64 (j : Int) := st.old hl 5 (by kernel_rfl); exact AnyOrder.sv rfl rfl (.int .i64 (j : Int)) (AnyOrder.run_move e0) st.inv (Below.refl _ _) rfl)
      | 2, ho => (injection ho with ho; subst ho; have ec := AnyOrder.evc a1; have ef := AnyOrder.evf a1; have e0 : a1.eval (.tmp 16) = .slice (some ⟨b1, o1, none⟩) n cu := st.done 0 16 (hdep ⟨0, .data⟩ (by simp) rfl) rfl; have e1 : a1.eval (.tmp 17) = .int .i64 (j : Int) := st.done 1 17 (hdep ⟨1, .data⟩ (by simp) rfl) rfl; exact AnyOrder.sv rfl rfl (ptr b1 (o1 + j * 8)) (by generalize a1.eval = ρ at ec ef e0 e1 ⊢; simp [execOp, e0, e1, go_sem, b3, b4]) st.inv (Below.refl _ _) rfl)
      | 3, ho => (injection ho with ho; subst ho; have e0 : a1.eval (.tmp 18) = ptr b1 (o1 + j * 8) := st.done 2 18 (hdep ⟨2, .data⟩ (by simp) rfl) rfl; exact AnyOrder.sv rfl rfl (x.V) (run_load_kp e0 (rng_below K1.out L1.out st.inv)) st.inv (Below.refl _ _) rfl)
      | 4, ho => (injection ho with ho; subst ho; have e0 : a1.eval (.tmp 1) = .slice (some ⟨b2, o2, none⟩) n cv := st.old hl 1 (by kernel_rfl); exact AnyOrder.sv rfl rfl (.slice (some ⟨b2, o2, none⟩) n cv) (AnyOrder.run_move e0) st.inv (Below.refl _ _) rfl)
      | 5, ho => (injection ho with ho; subst ho; have e0 : a1.eval (.tmp 5) = .int .i64 (j : Int) := st.old hl 5 (by kernel_rfl); exact AnyOrder.sv rfl rfl (.int .i64 (j : Int)) (AnyOrder.run_move e0) st.inv (Below.refl _ _) rfl)
      | 6, ho => (injection ho with ho; subst ho; have ec := AnyOrder.evc a1; have ef := AnyOrder.evf a1; have e0 : a1.eval (.tmp 20) = .slice (some ⟨b2, o2, none⟩) n cv := st.done 4 20 (hdep ⟨4, .data⟩ (by simp) rfl) rfl; have e1 : a1.eval (.tmp 21) = .int .i64 (j : Int) := st.done 5 21 (hdep ⟨5, .data⟩ (by simp) rfl) rfl; exact AnyOrder.sv rfl rfl (ptr b2 (o2 + j * 8)) (by generalize a1.eval = ρ at ec ef e0 e1 ⊢; simp [execOp, e0, e1, go_sem, b3, b4]) st.inv (Below.refl _ _) rfl)
      | 7, ho => (injection ho with ho; subst ho; have e0 : a1.eval (.tmp 22) = ptr b2 (o2 + j * 8) := st.done 6 22 (hdep ⟨6, .data⟩ (by simp) rfl) rfl; exact AnyOrder.sv rfl rfl (y.V) (run_load_kp e0 (rng_below K2.out L2.out st.inv)) st.inv (Below.refl _ _) rfl)
      | 8, ho => (injection ho with ho; subst ho; have e0 : a1.eval (.tmp 19) = x.V := st.done 3 19 (hdep ⟨3, .data⟩ (by simp) rfl) rfl; have e1 : a1.eval (.tmp 23) = y.V := st.done 7 23 (hdep ⟨7, .data⟩ (by simp) rfl) rfl; exact AnyOrder.sv rfl rfl (.bool true) (run_neq26b e0 e1 (by rw [HXY.out]; rfl)) st.inv (Below.refl _ _) rfl)
      | n + 9, ho => exact absurd hin (by omega)
     ·intro w2 hJ
      simp only [AnyOrder.finK, List.take_succ_cons, List.take_zero, List.drop_succ_cons, List.drop_zero, Act.put, List.setIfInBounds_toArray, List.set_cons_zero, List.set_cons_succ]
      go_wp2_with fail
      go_ret
      refine ⟨?_, HB.out.trans (hJ.mono HB.out.size)⟩
      rw [decide_eq_false (fun e => by
       have h := F1.out; rw [e, F2.out] at h; injection h with h
       have h2 := HXY.out; rw [h, K.beq_self] at h2; cases h2)]
      rfl
    ·have HXY := Lib.hid hxy; clear hxy
     refine AnyOrder.region_kinds2 9 [.eq (.slice (some ⟨b1, o1, none⟩) n cu), .eq (.int .i64 (j : Int)), .eq (ptr b1 (o1 + j * 8)), .eq (x.V), .eq (.slice (some ⟨b2, o2, none⟩) n cv), .eq (.int .i64 (j : Int)), .eq (ptr b2 (o2 + j * 8)), .eq (y.V), .eq (.bool false)] (fun wx => Below wr.heap.size wr wx) (by kernel_rfl) (by kernel_rfl) rfl (by kernel_rfl) (below_drewN (Below.refl _ _) 1) (fun p _ _ hp => by simp at hp) ?_ ?_
     ·intro i o listed a1 w2 hin ho st hl hdep
      match i, ho with
      | 0, ho => (injection ho with ho; subst ho; have e0 : a1.eval (.tmp 0) = .slice (some ⟨b1, o1, none⟩) n cu := st.old hl 0 (by kernel_rfl); exact AnyOrder.sv rfl rfl (.slice (some ⟨b1, o1, none⟩) n cu) (AnyOrder.run_move e0) st.inv (Below.refl _ _) rfl)
      | 1, ho => (injection ho with ho; subst ho; have e0 : a1.eval (.tmp 5) = .int .i64 (j : Int) := st.old hl 5 (by kernel_rfl); exact AnyOrder.sv rfl rfl (.int .i64 (j : Int)) (AnyOrder.run_move e0) st.inv (Below.refl _ _) rfl)
      | 2, ho => (injection ho with ho; subst ho; have ec := AnyOrder.evc a1; have ef := AnyOrder.evf a1; have e0 : a1.eval (.tmp 16) = .slice (some ⟨b1, o1, none⟩) n cu := st.done 0 16 (hdep ⟨0, .data⟩ (by simp) rfl) rfl; have e1 : a1.eval (.tmp 17) = .int .i64 (j : Int) := st.done 1 17 (hdep ⟨1, .data⟩ (by simp) rfl) rfl; exact AnyOrder.sv rfl rfl (ptr b1 (o1 + j * 8)) (by generalize a1.eval = ρ at ec ef e0 e1 ⊢; simp [execOp, e0, e1, go_sem, b3, b4]) st.inv (Below.refl _ _) rfl)
      | 3, ho => (injection ho with ho; subst ho; have e0 : a1.eval (.tmp 18) = ptr b1 (o1 + j * 8) := st.done 2 18 (hdep ⟨2, .data⟩ (by simp) rfl) rfl; exact AnyOrder.sv rfl rfl (x.V) (run_load_kp e0 (rng_below K1.out L1.out st.inv)) st.inv (Below.refl _ _) rfl)
      | 4, ho => (injection ho with ho; subst ho; have e0 : a1.eval (.tmp 1) = .slice (some ⟨b2, o2, none⟩) n cv := st.old hl 1 (by kernel_rfl); exact AnyOrder.sv rfl rfl (.slice (some ⟨b2, o2, none⟩) n cv) (AnyOrder.run_move e0) st.inv (Below.refl _ _) rfl)
      | 5, ho => (injection ho with ho; subst ho; have e0 : a1.eval (.tmp 5) = .int .i64 (j : Int) := st.old hl 5 (by kernel_rfl); exact AnyOrder.sv rfl rfl (.int .i64 (j : Int)) (AnyOrder.run_move e0) st.inv (Below.refl _ _) rfl)
      | 6, ho => (injection ho with ho; subst ho; have ec := AnyOrder.evc a1; have ef := AnyOrder.evf a1; have e0 : a1.eval (.tmp 20) = .slice (some ⟨b2, o2, none⟩) n cv := st.done 4 20 (hdep ⟨4, .data⟩ (by simp) rfl) rfl; have e1 : a1.eval (.tmp 21) = .int .i64 (j : Int) := st.done 5 21 (hdep ⟨5, .data⟩ (by simp) rfl) rfl; exact AnyOrder.sv rfl rfl (ptr b2 (o2 + j * 8)) (by generalize a1.eval = ρ at ec ef e0 e1 ⊢; simp [execOp, e0, e1, go_sem, b3, b4]) st.inv (Below.refl _ _) rfl)
      | 7, ho => (injection ho with ho; subst ho; have e0 : a1.eval (.tmp 22) = ptr b2 (o2 + j * 8) := st.done 6 22 (hdep ⟨6, .data⟩ (by simp) rfl) rfl; exact AnyOrder.sv rfl rfl (y.V) (run_load_kp e0 (rng_below K2.out L2.out st.inv)) st.inv (Below.refl _ _) rfl)
      | 8, ho => (injection ho with ho; subst ho; have e0 : a1.eval (.tmp 19) = x.V := st.done 3 19 (hdep ⟨3, .data⟩ (by simp) rfl) rfl; have e1 : a1.eval (.tmp 23) = y.V := st.done 7 23 (hdep ⟨7, .data⟩ (by simp) rfl) rfl; exact AnyOrder.sv rfl rfl (.bool false) (run_neq26b e0 e1 (by rw [HXY.out]; rfl)) st.inv (Below.refl _ _) rfl)
      | n + 9, ho => exact absurd hin (by omega)
     ·intro w2 hJ
      simp only [AnyOrder.finK, List.take_succ_cons, List.take_zero, List.drop_succ_cons, List.drop_zero, Act.put, List.setIfInBounds_toArray, List.set_cons_zero, List.set_cons_succ]
      go_wp2_with fail
      go_roundg (n - (j + 1))
      case measure => have := HG.out; omega
      case rel => exact ⟨j + 1, by omega, rfl, (by have := HN.out; rw [IntWalk.wrap64_in _ (by omega)]; rfl), HB.out.trans (hJ.mono HB.out.size), fun i hi => by
       by_cases hij : i < j
       ·exact HS.out i hij
       ·obtain rfl : i = j := by omega
        rw [F1.out, F2.out, K.beq_iff.1 HXY.out]⟩
   ·obtain rfl : j = n := by omega
    go_wp2_with fail
    go_ret
    refine ⟨?_, HB.out⟩
    have : xs = ys := by
     apply List.ext_getElem?
     intro i
     by_cases hi : i < j
     ·exact HS.out i hi
     ·rw [List.getElem?_eq_none (by rw [HL.out]; omega), List.getElem?_eq_none (by rw [HNN.out]; omega)]
    rw [decide_eq_true this]
    rfl
 ·have hd : decide (xs = ys) = false := decide_eq_false (fun e => hl (congrArg List.length e))
  rw [hd]
  have f0 : ¬ (xs.length : Int) = (ys.length : Int) := by omega
  clear hu hv hl hd hn
  go_enter Tryz.func81, Tryz.ntmps81
  go_wp2_with fail
  go_ret
  exact ⟨rfl, Below.refl _ _⟩
theorem run_load_cp {ρ : Operand → Value} {w : World} {x : Tmp} {g off : Nat} {c : Cfg} {d : Option Tmp} {t : TypeId} {pos : String} {af : Array Edge} {gd : Option (Nat × Bool)} (e : ρ (.tmp x) = ptr g off) (h : w.rangeAt g off c.cells.toList) :
  (execOp ρ { dst := d, op := Op.load 24 (.tmp x), type := t, pos := pos, after := af, guard := gd }).run Tryz.prog w = .ok (.value c.V) w := by
 unfold execOp
 simp only [e, Instr.loadAt, Instr.sureAddr, Sem.run_bind, Sem.run_pure, Result.andThen_ok, run_loadVar_mid (P := Tryz.prog) w g off 24 _ _ h Tryz.underlying24 rfl (size24 c), Array.toArray_toList]
theorem ints_size {l : List Int} (h : l.length = 4) : (Tryz.prog.info? 35).map (·.size) = some (ints l).toList.length := by simp only [ints, List.length_map, h]; kernel_rfl
theorem BkAt.ms {w : World} {g : Nat} {b : Bk} {o p : Option Addr} (h : BkAt w g b o p) : w.rangeAt g 25 (ints b.m).toList := fun j u hu => by
 have hj : j < 4 := by have := (List.getElem?_eq_some_iff.1 hu).1; simpa [ints, b.ml] using this
 rw [h.kM hj, ← hu]
 simp [ints, b.ml, hj]
theorem run_load_ms {ρ : Operand → Value} {w : World} {x : Tmp} {g off : Nat} {l : List Int} {d : Option Tmp} {t : TypeId} {pos : String} {af : Array Edge} {gd : Option (Nat × Bool)} (hl : l.length = 4) (e : ρ (.tmp x) = ptr g off) (h : w.rangeAt g off (ints l).toList) :
  (execOp ρ { dst := d, op := Op.load 35 (.tmp x), type := t, pos := pos, after := af, guard := gd }).run Tryz.prog w = .ok (.value (.agg (ints l))) w := by
 unfold execOp
 simp only [e, Instr.loadAt, Instr.sureAddr, Sem.run_bind, Sem.run_pure, Result.andThen_ok, run_loadVar_mid (P := Tryz.prog) w g off 35 _ _ h Tryz.underlying35 rfl (ints_size hl), Array.toArray_toList]
theorem run_eql24b {ρ : Operand → Value} {w : World} {d : Option Tmp} {t t2 : TypeId} {pos : String} {af : Array Edge} {gd : Option (Nat × Bool)} {x y : Operand} {c : Cfg} (e1 : ρ x = c.V) (e2 : ρ y = c.V) : (execOp ρ { dst := d, op := Op.binOp .eql 24 x y t2, type := t, pos := pos, after := af, guard := gd }).run Tryz.prog w = .ok (.value (.bool true)) w := by
 have h := run_eql24 (d := d) (t := t) (t2 := t2) (pos := pos) (af := af) (gd := gd) (w := w) e1 e2
 rwa [Cfg.beq_self] at h
theorem run_eql30b {ρ : Operand → Value} {w : World} {d : Option Tmp} {t t2 : TypeId} {pos : String} {af : Array Edge} {gd : Option (Nat × Bool)} {x y : Operand} {l : List Int} (hl : l.length = 4) (e1 : ρ x = .agg (ints l)) (e2 : ρ y = .agg (ints l)) : (execOp ρ { dst := d, op := Op.binOp .eql 35 x y t2, type := t, pos := pos, after := af, guard := gd }).run Tryz.prog w = .ok (.value (.bool true)) w := by
 have h := run_eql30 (d := d) (t := t) (t2 := t2) (pos := pos) (af := af) (gd := gd) (w := w) hl hl e1 e2
 rwa [(modesEq_iff hl hl).2 rfl] at h
def RwAt (xs : List K) (v : Value) (w : World) : Prop := Sh.Rd Sh.eC w v xs
theorem RwAt.keep {xs : List K} {v : Value} {w w' : World} (h : RwAt xs v w) (hb : Below w.heap.size w w') : RwAt xs v w' := Sh.Rd.below h hb
structure DSt (w W : World) (g s : Nat) (b : Bk) (o p o' p' : Option Addr) : Prop where
 bel : Below w.heap.size w W
 bk : BkAt W g b o p
 bk2 : BkAt W s b o' p'
theorem DSt.new (w : World) (b : Bk) (o p o' p' : Option Addr) : DSt w ((w.alloc (.cells (b.cells o p) 37)).alloc (.cells (b.cells o' p') 37)) w.heap.size (w.heap.size + 1) b o p o' p' := by
 obtain ⟨h1, h2, h3⟩ := new2 w (b.cells o p) (b.cells o' p') 37 37
 exact ⟨h1, h2, h3⟩
set_option maxRecDepth 100000 in
set_option maxHeartbeats 1600000 in
theorem same_book {b : Bk} {o p o' p' : Option Addr} {w : World} (ha : BAt w b o p) (hb : BAt w b o' p') : Calls Tryz.prog 45 #[b.V o p, b.V o' p'] w (Yes w true) := by
 have HT := Lib.hid (DSt.new w b o p o' p')
 have HA := Lib.hid (ha.step HT.out.bel); have HB := Lib.hid (hb.step HT.out.bel); clear ha hb
 have hle := HA.out.2.le
 have HLE : Hid (b.done.length ≤ 65536) := Lib.hid (by omega); clear hle
 go_enter Tryz.func45, Tryz.ntmps45
 go_upto_region 1 with fail
 obtain ⟨W, hW⟩ : ∃ W, (w.alloc (.cells (b.cells o p) 37)).alloc (.cells (b.cells o' p') 37) = W := ⟨_, rfl⟩
 rw [hW] at HT HA HB ⊢; clear hW
 generalize w.heap.size + 1 = s at HT ⊢
 generalize w.heap.size = g at HT ⊢
 refine AnyOrder.region_kinds2 33 [.eq (ptr g 0), .eq (b.c.V), .eq (ptr s 0), .eq (b.c.V), .eq (.bool true), .eq (.bool true), .eq (ptr g 18), .eq (.int .i64 b.ix), .eq (ptr s 18), .eq (.int .i64 b.ix), .eq (.bool true), .eq (.bool true), .eq (.bool true), .eq (ptr g 25), .eq (.agg (ints b.m)), .eq (ptr s 25), .eq (.agg (ints b.m)), .eq (.bool true), .eq (.bool true), .eq (.bool true), .eq (ptr g 19), .eq (sv o b.live.length b.rm), .eq (ptr s 19), .eq (sv o' b.live.length b.rm), .eq (.bool true), .eq (.bool true), .eq (.bool true), .eq (b.V o p), .of (RwAt (b.done.map (·.2))), .eq (b.V o' p'), .of (RwAt (b.done.map (·.2))), .eq (.bool true), .eq (.bool true)] (fun wx => Below W.heap.size W wx) (by kernel_rfl) (by kernel_rfl) rfl (by kernel_rfl) (below_drewN (Below.refl _ _) 1) (by intro p wa wb hp hj hb v hv; simp at hp; rcases hp with rfl | rfl <;> (first | exact RwAt.keep hv hb | exact RwAt.keep hv hb | fail)) ?_ ?_
 ·intro i o listed a1 w2 hin ho st hl hdep
  match i, ho with
  | 0, ho => (injection ho with ho; subst ho; have ec := AnyOrder.evc a1; have ef := AnyOrder.evf a1; have e0 : a1.eval (.tmp 2) = ptr g 0 := st.old hl 2 (by kernel_rfl); exact AnyOrder.sv rfl rfl (ptr g 0) (by generalize a1.eval = ρ at ec ef e0 ⊢; simp [execOp, ec, ef, e0, IntWalk.i64_left, go_sem]) st.inv (Below.refl _ _) rfl)
  | 1, ho => (injection ho with ho; subst ho; have e0 : a1.eval (.tmp 5) = ptr g 0 := st.done 0 5 (hdep ⟨0, .data⟩ (by simp) rfl) rfl; exact AnyOrder.sv rfl rfl (b.c.V) (run_load_cp e0 (BkAt.kc (At.step HT.out.bk st.inv))) st.inv (Below.refl _ _) rfl)
  | 2, ho => (injection ho with ho; subst ho; have ec := AnyOrder.evc a1; have ef := AnyOrder.evf a1; have e0 : a1.eval (.tmp 3) = ptr s 0 := st.old hl 3 (by kernel_rfl); exact AnyOrder.sv rfl rfl (ptr s 0) (by generalize a1.eval = ρ at ec ef e0 ⊢; simp [execOp, ec, ef, e0, IntWalk.i64_left, go_sem]) st.inv (Below.refl _ _) rfl)
  | 3, ho => (injection ho with ho; subst ho; have e0 : a1.eval (.tmp 7) = ptr s 0 := st.done 2 7 (hdep ⟨2, .data⟩ (by simp) rfl) rfl; exact AnyOrder.sv rfl rfl (b.c.V) (run_load_cp e0 (BkAt.kc (At.step HT.out.bk2 st.inv))) st.inv (Below.refl _ _) rfl)
  | 4, ho => (injection ho with ho; subst ho; have e0 : a1.eval (.tmp 6) = b.c.V := st.done 1 6 (hdep ⟨1, .data⟩ (by simp) rfl) rfl; have e1 : a1.eval (.tmp 8) = b.c.V := st.done 3 8 (hdep ⟨3, .data⟩ (by simp) rfl) rfl; exact AnyOrder.sv rfl rfl (.bool true) (run_eql24b e0 e1) st.inv (Below.refl _ _) rfl)
  | 5, ho => (injection ho with ho; subst ho; have e0 : a1.eval (.tmp 9) = .bool true := st.done 4 9 (hdep ⟨4, .data⟩ (by simp) rfl) rfl; exact AnyOrder.sv rfl rfl (.bool true) (AnyOrder.run_move e0) st.inv (Below.refl _ _) rfl)
  | 6, ho => (injection ho with ho; subst ho; have ec := AnyOrder.evc a1; have ef := AnyOrder.evf a1; have e0 : a1.eval (.tmp 2) = ptr g 0 := st.old hl 2 (by kernel_rfl); have eg : a1.eval (.tmp 10) = .bool true := st.done 5 10 (hdep ⟨5, .guard⟩ (by simp) rfl) rfl; exact AnyOrder.step_value rfl ((AnyOrder.wanted_of rfl rfl eg).trans rfl) (ptr g 18) (by generalize a1.eval = ρ at ec ef e0 ⊢; simp [execOp, ec, ef, e0, IntWalk.i64_left, go_sem]) st.inv (Below.refl _ _) rfl)
  | 7, ho => (injection ho with ho; subst ho; have ec := AnyOrder.evc a1; have ef := AnyOrder.evf a1; have e0 : a1.eval (.tmp 11) = ptr g 18 := st.done 6 11 (hdep ⟨6, .data⟩ (by simp) rfl) rfl; have eg : a1.eval (.tmp 10) = .bool true := st.done 5 10 (hdep ⟨5, .guard⟩ (by simp) rfl) rfl; exact AnyOrder.step_value rfl ((AnyOrder.wanted_of rfl rfl eg).trans rfl) (.int .i64 b.ix) (by have hk := BkAt.k18 (At.step HT.out.bk st.inv); generalize a1.eval = ρ at ec ef e0 ⊢; simp [execOp, e0, go_sem, hk]) st.inv (Below.refl _ _) rfl)
  | 8, ho => (injection ho with ho; subst ho; have ec := AnyOrder.evc a1; have ef := AnyOrder.evf a1; have e0 : a1.eval (.tmp 3) = ptr s 0 := st.old hl 3 (by kernel_rfl); have eg : a1.eval (.tmp 10) = .bool true := st.done 5 10 (hdep ⟨5, .guard⟩ (by simp) rfl) rfl; exact AnyOrder.step_value rfl ((AnyOrder.wanted_of rfl rfl eg).trans rfl) (ptr s 18) (by generalize a1.eval = ρ at ec ef e0 ⊢; simp [execOp, ec, ef, e0, IntWalk.i64_left, go_sem]) st.inv (Below.refl _ _) rfl)
  | 9, ho => (injection ho with ho; subst ho; have ec := AnyOrder.evc a1; have ef := AnyOrder.evf a1; have e0 : a1.eval (.tmp 13) = ptr s 18 := st.done 8 13 (hdep ⟨8, .data⟩ (by simp) rfl) rfl; have eg : a1.eval (.tmp 10) = .bool true := st.done 5 10 (hdep ⟨5, .guard⟩ (by simp) rfl) rfl; exact AnyOrder.step_value rfl ((AnyOrder.wanted_of rfl rfl eg).trans rfl) (.int .i64 b.ix) (by have hk := BkAt.k18 (At.step HT.out.bk2 st.inv); generalize a1.eval = ρ at ec ef e0 ⊢; simp [execOp, e0, go_sem, hk]) st.inv (Below.refl _ _) rfl)
  | 10, ho => (injection ho with ho; subst ho; have ec := AnyOrder.evc a1; have ef := AnyOrder.evf a1; have e0 : a1.eval (.tmp 12) = .int .i64 b.ix := st.done 7 12 (hdep ⟨7, .data⟩ (by simp) rfl) rfl; have e1 : a1.eval (.tmp 14) = .int .i64 b.ix := st.done 9 14 (hdep ⟨9, .data⟩ (by simp) rfl) rfl; have eg : a1.eval (.tmp 10) = .bool true := st.done 5 10 (hdep ⟨5, .guard⟩ (by simp) rfl) rfl; exact AnyOrder.step_value rfl ((AnyOrder.wanted_of rfl rfl eg).trans rfl) (.bool true) (by generalize a1.eval = ρ at ec ef e0 e1 ⊢; simp [execOp, e0, e1, go_sem]) st.inv (Below.refl _ _) rfl)
  | 11, ho => (injection ho with ho; subst ho; have ec := AnyOrder.evc a1; have ef := AnyOrder.evf a1; have e0 : a1.eval (.tmp 10) = .bool true := st.done 5 10 (hdep ⟨5, .data⟩ (by simp) rfl) rfl; have e1 : a1.eval (.tmp 15) = .bool true := st.done 10 15 (hdep ⟨10, .data⟩ (by simp) rfl) rfl; exact AnyOrder.sv rfl rfl (.bool true) (by generalize a1.eval = ρ at ec ef e0 e1 ⊢; simp [execOp, ec, ef, e0, e1, IntWalk.i64_left, go_sem]) st.inv (Below.refl _ _) rfl)
  | 12, ho => (injection ho with ho; subst ho; have e0 : a1.eval (.tmp 16) = .bool true := st.done 11 16 (hdep ⟨11, .data⟩ (by simp) rfl) rfl; exact AnyOrder.sv rfl rfl (.bool true) (AnyOrder.run_move e0) st.inv (Below.refl _ _) rfl)
  | 13, ho => (injection ho with ho; subst ho; have ec := AnyOrder.evc a1; have ef := AnyOrder.evf a1; have e0 : a1.eval (.tmp 2) = ptr g 0 := st.old hl 2 (by kernel_rfl); have eg : a1.eval (.tmp 17) = .bool true := st.done 12 17 (hdep ⟨12, .guard⟩ (by simp) rfl) rfl; exact AnyOrder.step_value rfl ((AnyOrder.wanted_of rfl rfl eg).trans rfl) (ptr g 25) (by generalize a1.eval = ρ at ec ef e0 ⊢; simp [execOp, ec, ef, e0, IntWalk.i64_left, go_sem]) st.inv (Below.refl _ _) rfl)
  | 14, ho => (injection ho with ho; subst ho; have e0 : a1.eval (.tmp 18) = ptr g 25 := st.done 13 18 (hdep ⟨13, .data⟩ (by simp) rfl) rfl; have eg : a1.eval (.tmp 17) = .bool true := st.done 12 17 (hdep ⟨12, .guard⟩ (by simp) rfl) rfl; exact AnyOrder.step_value rfl ((AnyOrder.wanted_of rfl rfl eg).trans rfl) (.agg (ints b.m)) (run_load_ms b.ml e0 (BkAt.ms (At.step HT.out.bk st.inv))) st.inv (Below.refl _ _) rfl)
  | 15, ho => (injection ho with ho; subst ho; have ec := AnyOrder.evc a1; have ef := AnyOrder.evf a1; have e0 : a1.eval (.tmp 3) = ptr s 0 := st.old hl 3 (by kernel_rfl); have eg : a1.eval (.tmp 17) = .bool true := st.done 12 17 (hdep ⟨12, .guard⟩ (by simp) rfl) rfl; exact AnyOrder.step_value rfl ((AnyOrder.wanted_of rfl rfl eg).trans rfl) (ptr s 25) (by generalize a1.eval = ρ at ec ef e0 ⊢; simp [execOp, ec, ef, e0, IntWalk.i64_left, go_sem]) st.inv (Below.refl _ _) rfl)
  | 16, ho => (injection ho with ho; subst ho; have e0 : a1.eval (.tmp 20) = ptr s 25 := st.done 15 20 (hdep ⟨15, .data⟩ (by simp) rfl) rfl; have eg : a1.eval (.tmp 17) = .bool true := st.done 12 17 (hdep ⟨12, .guard⟩ (by simp) rfl) rfl; exact AnyOrder.step_value rfl ((AnyOrder.wanted_of rfl rfl eg).trans rfl) (.agg (ints b.m)) (run_load_ms b.ml e0 (BkAt.ms (At.step HT.out.bk2 st.inv))) st.inv (Below.refl _ _) rfl)
  | 17, ho => (injection ho with ho; subst ho; have e0 : a1.eval (.tmp 19) = .agg (ints b.m) := st.done 14 19 (hdep ⟨14, .data⟩ (by simp) rfl) rfl; have e1 : a1.eval (.tmp 21) = .agg (ints b.m) := st.done 16 21 (hdep ⟨16, .data⟩ (by simp) rfl) rfl; have eg : a1.eval (.tmp 17) = .bool true := st.done 12 17 (hdep ⟨12, .guard⟩ (by simp) rfl) rfl; exact AnyOrder.step_value rfl ((AnyOrder.wanted_of rfl rfl eg).trans rfl) (.bool true) (run_eql30b b.ml e0 e1) st.inv (Below.refl _ _) rfl)
  | 18, ho => (injection ho with ho; subst ho; have ec := AnyOrder.evc a1; have ef := AnyOrder.evf a1; have e0 : a1.eval (.tmp 17) = .bool true := st.done 12 17 (hdep ⟨12, .data⟩ (by simp) rfl) rfl; have e1 : a1.eval (.tmp 22) = .bool true := st.done 17 22 (hdep ⟨17, .data⟩ (by simp) rfl) rfl; exact AnyOrder.sv rfl rfl (.bool true) (by generalize a1.eval = ρ at ec ef e0 e1 ⊢; simp [execOp, ec, ef, e0, e1, IntWalk.i64_left, go_sem]) st.inv (Below.refl _ _) rfl)
  | 19, ho => (injection ho with ho; subst ho; have e0 : a1.eval (.tmp 23) = .bool true := st.done 18 23 (hdep ⟨18, .data⟩ (by simp) rfl) rfl; exact AnyOrder.sv rfl rfl (.bool true) (AnyOrder.run_move e0) st.inv (Below.refl _ _) rfl)
  | 20, ho => (injection ho with ho; subst ho; have ec := AnyOrder.evc a1; have ef := AnyOrder.evf a1; have e0 : a1.eval (.tmp 2) = ptr g 0 := st.old hl 2 (by kernel_rfl); have eg : a1.eval (.tmp 24) = .bool true := st.done 19 24 (hdep ⟨19, .guard⟩ (by simp) rfl) rfl; exact AnyOrder.step_value rfl ((AnyOrder.wanted_of rfl rfl eg).trans rfl) (ptr g 19) (by generalize a1.eval = ρ at ec ef e0 ⊢; simp [execOp, ec, ef, e0, IntWalk.i64_left, go_sem]) st.inv (Below.refl _ _) rfl)
  | 21, ho => (injection ho with ho; subst ho; have e0 : a1.eval (.tmp 25) = ptr g 19 := st.done 20 25 (hdep ⟨20, .data⟩ (by simp) rfl) rfl; have eg : a1.eval (.tmp 24) = .bool true := st.done 19 24 (hdep ⟨19, .guard⟩ (by simp) rfl) rfl; exact AnyOrder.step_value rfl ((AnyOrder.wanted_of rfl rfl eg).trans rfl) (sv o b.live.length b.rm) (run_load_sv e0 (BkAt.lv (At.step HT.out.bk st.inv))) st.inv (Below.refl _ _) rfl)
  | 22, ho => (injection ho with ho; subst ho; have ec := AnyOrder.evc a1; have ef := AnyOrder.evf a1; have e0 : a1.eval (.tmp 3) = ptr s 0 := st.old hl 3 (by kernel_rfl); have eg : a1.eval (.tmp 24) = .bool true := st.done 19 24 (hdep ⟨19, .guard⟩ (by simp) rfl) rfl; exact AnyOrder.step_value rfl ((AnyOrder.wanted_of rfl rfl eg).trans rfl) (ptr s 19) (by generalize a1.eval = ρ at ec ef e0 ⊢; simp [execOp, ec, ef, e0, IntWalk.i64_left, go_sem]) st.inv (Below.refl _ _) rfl)
  | 23, ho => (injection ho with ho; subst ho; have e0 : a1.eval (.tmp 27) = ptr s 19 := st.done 22 27 (hdep ⟨22, .data⟩ (by simp) rfl) rfl; have eg : a1.eval (.tmp 24) = .bool true := st.done 19 24 (hdep ⟨19, .guard⟩ (by simp) rfl) rfl; exact AnyOrder.step_value rfl ((AnyOrder.wanted_of rfl rfl eg).trans rfl) (sv o' b.live.length b.rm) (run_load_sv e0 (BkAt.lv (At.step HT.out.bk2 st.inv))) st.inv (Below.refl _ _) rfl)
  | 24, ho => (injection ho with ho; subst ho; have ec := AnyOrder.evc a1; have ef := AnyOrder.evf a1; have e0 : a1.eval (.tmp 26) = sv o b.live.length b.rm := st.done 21 26 (hdep ⟨21, .data⟩ (by simp) rfl) rfl; have e1 : a1.eval (.tmp 28) = sv o' b.live.length b.rm := st.done 23 28 (hdep ⟨23, .data⟩ (by simp) rfl) rfl; have eg : a1.eval (.tmp 24) = .bool true := st.done 19 24 (hdep ⟨19, .chain⟩ (by simp) rfl) rfl; exact AnyOrder.step_call rfl ((AnyOrder.wanted_of rfl rfl eg).trans rfl) 80 #[sv o b.live.length b.rm, sv o' b.live.length b.rm] (by generalize a1.eval = ρ at ec ef e0 e1 ⊢; simp [execOp, ec, ef, e0, e1, go_sem]) (((by have h := Sh.equal_any (HA.out.step st.inv).1 (HB.out.step st.inv).1; rwa [decide_eq_true ⟨rfl, rfl⟩] at h : Calls Tryz.prog 80 _ w2 fun e w4 => e = .returned (.bool true) ∧ Below w2.heap.size w2 w4)).mono (fun e w3 h => by obtain ⟨rfl, hb⟩ := h; exact ⟨_, rfl, st.inv.trans (hb.mono st.inv.size), hb, rfl⟩)))
  | 25, ho => (injection ho with ho; subst ho; have ec := AnyOrder.evc a1; have ef := AnyOrder.evf a1; have e0 : a1.eval (.tmp 24) = .bool true := st.done 19 24 (hdep ⟨19, .data⟩ (by simp) rfl) rfl; have e1 : a1.eval (.tmp 29) = .bool true := st.done 24 29 (hdep ⟨24, .data⟩ (by simp) rfl) rfl; exact AnyOrder.sv rfl rfl (.bool true) (by generalize a1.eval = ρ at ec ef e0 e1 ⊢; simp [execOp, ec, ef, e0, e1, IntWalk.i64_left, go_sem]) st.inv (Below.refl _ _) rfl)
  | 26, ho => (injection ho with ho; subst ho; have e0 : a1.eval (.tmp 30) = .bool true := st.done 25 30 (hdep ⟨25, .data⟩ (by simp) rfl) rfl; exact AnyOrder.sv rfl rfl (.bool true) (AnyOrder.run_move e0) st.inv (Below.refl _ _) rfl)
  | 27, ho => (injection ho with ho; subst ho; have e0 : a1.eval (.tmp 2) = ptr g 0 := st.old hl 2 (by kernel_rfl); have eg : a1.eval (.tmp 31) = .bool true := st.done 26 31 (hdep ⟨26, .guard⟩ (by simp) rfl) rfl; exact AnyOrder.step_value rfl ((AnyOrder.wanted_of rfl rfl eg).trans rfl) (b.V o p) (run_load_bk e0 (At.step HT.out.bk st.inv)) st.inv (Below.refl _ _) rfl)
  | 28, ho => (injection ho with ho; subst ho; have ec := AnyOrder.evc a1; have ef := AnyOrder.evf a1; have e0 : a1.eval (.tmp 32) = b.V o p := st.done 27 32 (hdep ⟨27, .data⟩ (by simp) rfl) rfl; have eg : a1.eval (.tmp 31) = .bool true := st.done 26 31 (hdep ⟨26, .chain⟩ (by simp) rfl) rfl; exact AnyOrder.step_call rfl ((AnyOrder.wanted_of rfl rfl eg).trans rfl) 82 #[b.V o p] (by generalize a1.eval = ρ at ec ef e0 ⊢; simp [execOp, ec, ef, e0, go_sem]) ((done_any (HA.out.step st.inv)).mono (fun e w4 h => by obtain ⟨vk, rfl, ho, hb⟩ := h; exact ⟨_, rfl, st.inv.trans (hb.mono st.inv.size), hb, ho.rd⟩)))
  | 29, ho => (injection ho with ho; subst ho; have e0 : a1.eval (.tmp 3) = ptr s 0 := st.old hl 3 (by kernel_rfl); have eg : a1.eval (.tmp 31) = .bool true := st.done 26 31 (hdep ⟨26, .guard⟩ (by simp) rfl) rfl; exact AnyOrder.step_value rfl ((AnyOrder.wanted_of rfl rfl eg).trans rfl) (b.V o' p') (run_load_bk e0 (At.step HT.out.bk2 st.inv)) st.inv (Below.refl _ _) rfl)
  | 30, ho => (injection ho with ho; subst ho; have ec := AnyOrder.evc a1; have ef := AnyOrder.evf a1; have e0 : a1.eval (.tmp 34) = b.V o' p' := st.done 29 34 (hdep ⟨29, .data⟩ (by simp) rfl) rfl; have eg : a1.eval (.tmp 31) = .bool true := st.done 26 31 (hdep ⟨26, .guard⟩ (by simp) rfl) rfl; exact AnyOrder.step_call rfl ((AnyOrder.wanted_of rfl rfl eg).trans rfl) 82 #[b.V o' p'] (by generalize a1.eval = ρ at ec ef e0 ⊢; simp [execOp, ec, ef, e0, go_sem]) ((done_any (HB.out.step st.inv)).mono (fun e w4 h => by obtain ⟨vk, rfl, ho, hb⟩ := h; exact ⟨_, rfl, st.inv.trans (hb.mono st.inv.size), hb, ho.rd⟩)))
  | 31, ho => (injection ho with ho; subst ho; have ec := AnyOrder.evc a1; have ef := AnyOrder.evf a1; have e0 := st.done 28 33 (hdep ⟨28, .data⟩ (by simp) rfl) rfl; have e1 := st.done 30 35 (hdep ⟨30, .data⟩ (by simp) rfl) rfl; have eg : a1.eval (.tmp 31) = .bool true := st.done 26 31 (hdep ⟨26, .guard⟩ (by simp) rfl) rfl; obtain ⟨v0, f0⟩ : ∃ v, a1.eval (.tmp 33) = v := ⟨_, rfl⟩; obtain ⟨v1, f1⟩ : ∃ v, a1.eval (.tmp 35) = v := ⟨_, rfl⟩; rw [f0] at e0; rw [f1] at e1; have e0 : Sh.Rd Sh.eC w2 v0 (b.done.map (·.2)) := e0; have e1 : Sh.Rd Sh.eC w2 v1 (b.done.map (·.2)) := e1; exact AnyOrder.step_call rfl ((AnyOrder.wanted_of rfl rfl eg).trans rfl) 81 #[v0, v1] (by generalize a1.eval = ρ at ec ef f0 f1 ⊢; simp [execOp, ec, ef, f0, f1, go_sem]) ((equal_rows e0 e1 (by rw [List.length_map]; have := HLE.out; omega)).mono (fun e w4 h => by obtain ⟨rfl, hb⟩ := h; exact ⟨_, rfl, st.inv.trans (hb.mono st.inv.size), hb, by rw [decide_eq_true rfl]; rfl⟩)))
  | 32, ho => (injection ho with ho; subst ho; have ec := AnyOrder.evc a1; have ef := AnyOrder.evf a1; have e0 : a1.eval (.tmp 31) = .bool true := st.done 26 31 (hdep ⟨26, .data⟩ (by simp) rfl) rfl; have e1 : a1.eval (.tmp 36) = .bool true := st.done 31 36 (hdep ⟨31, .data⟩ (by simp) rfl) rfl; exact AnyOrder.sv rfl rfl (.bool true) (by generalize a1.eval = ρ at ec ef e0 e1 ⊢; simp [execOp, ec, ef, e0, e1, IntWalk.i64_left, go_sem]) st.inv (Below.refl _ _) rfl)
  | n + 33, ho => exact absurd hin (by omega)
 ·intro w2 hJ
  simp only [AnyOrder.finK, List.take_succ_cons, List.take_zero, List.drop_succ_cons, List.drop_zero, Act.put, List.setIfInBounds_toArray, List.set_cons_zero, List.set_cons_succ]
  intro v28 h28 v30 h30
  go_wp2_with fail
  go_ret
  exact ⟨rfl, HT.out.bel.trans (hJ.mono HT.out.bel.size)⟩
end Go.Proofs.YtplapoenhohliaaGreat
