import Derived.Test.YtplapoenhohliaaGreatOrder3
namespace Go.Proofs.YtplapoenhohliaaGreat
open Go.RowKit Go.Lib
open Sh.Plain (KV get put del Rise)
set_option linter.unusedVariables false
set_option linter.unusedSimpArgs false
def roomyL (rm : Nat) (l : List KV) : List KV := if l.length < rm then l else match l with
 | [] => []
 | x :: _ => del x.1 l
def SvAt (w : World) (g : Nat) (o : Option Addr) (n r : Nat) : Prop := At w g 34 #[.pointer o, .int .i64 (n : Int), .int .i64 (r : Int)]
theorem SvAt.rng {w : World} {g n r : Nat} {o : Option Addr} (h : SvAt w g o n r) : w.rangeAt g 0 [.pointer o, .int .i64 (n : Int), .int .i64 (r : Int)] := range3 (by rw [At.cell h]; rfl) (by rw [At.cell h]; rfl) (by rw [At.cell h]; rfl)
theorem size29s (o : Option Addr) (n r : Nat) : (Tryz.prog.info? 34).map (·.size) = some (#[Value.pointer o, .int .i64 (n : Int), .int .i64 (r : Int)] : Array Value).size := by kernel_rfl
section
variable {ops : Array Oper} {rest : List Oper} {o : Oper} {a : Act} {w : World} {Q : Exit → Act → World → Prop}
theorem wpList_store_sv (x y : Tmp) (ho : o.op = .store 34 (.tmp x) (.tmp y)) (hgd : o.guard = none) {q n r n' r' : Nat} {s s' : Option Addr} (e1 : a.eval (.tmp x) = ptr q 0) (e2 : a.eval (.tmp y) = sv s n r) (hq : SvAt w q s' n' r')
  (k : wpList Tryz.prog ops Q rest (a.put o.dst undef) (w.setRow q #[.pointer s, .int .i64 (n : Int), .int .i64 (r : Int)])) : wpList Tryz.prog ops Q (o :: rest) a w :=
 wpList_store_row hgd 34 (.tmp x) (.tmp y) ho q _ e1 e2 34 _ hq (size29s s n r) rfl (by simp [Value.oneCell']) k
end
theorem results_sv {fn : Func} {p : Tmp} (h : fn.results = #[.cell p 34]) {tmps : Array Value} {w : World} {g n r : Nat} {o : Option Addr} (hp : tmps.getD p undef = ptr g 0) (hg : SvAt w g o n r) :
  (results fn tmps).run Tryz.prog w = .ok (sv o n r) w := by
 rw [Array.getD_eq_getD_getElem?] at hp
 have l1 : (loadVar 34 ⟨g, 0, none⟩).run Tryz.prog w = .ok (sv o n r) w := run_loadVar_row w g 34 34 _ (0, 0) _ hg Tryz.underlying34 rfl (size29s o n r)
 simp [results, h, hp, asAddr, l1]
def KeyAt (k : Int) (n : Nat) (v : Value) (w : World) : Prop := ∃ g cap, v = .slice (some ⟨g, 0, none⟩) n cap ∧ g < w.heap.size ∧ w.cell? ⟨g, 0, none⟩ = some (.int .i64 k)
theorem KeyAt.keep {k : Int} {n : Nat} {v : Value} {w w' : World} (h : KeyAt k n v w) (hb : Below w.heap.size w w') : KeyAt k n v w' := by
 obtain ⟨g, cap, rfl, h1, h2⟩ := h
 exact ⟨g, cap, rfl, Nat.lt_of_lt_of_le h1 hb.size, (hb.cell (p := ⟨g, 0, none⟩) h1).trans h2⟩
def PlAt (k : Int) (v : Value) (w : World) : Prop := ∃ g, v = ptr g 0 ∧ g < w.heap.size ∧ w.cell? ⟨g, 0, none⟩ = some (.int .i64 k)
theorem PlAt.keep {k : Int} {v : Value} {w w' : World} (h : PlAt k v w) (hb : Below w.heap.size w w') : PlAt k v w' := by
 obtain ⟨g, rfl, h1, h2⟩ := h
 exact ⟨g, rfl, Nat.lt_of_lt_of_le h1 hb.size, (hb.cell (p := ⟨g, 0, none⟩) h1).trans h2⟩
def ShAt (l : List KV) (rm : Nat) (v : Value) (w : World) : Prop := Sh.SAt w v l rm
theorem ShAt.keep {l : List KV} {rm : Nat} {v : Value} {w w' : World} (h : ShAt l rm v w) (hb : Below w.heap.size w w') : ShAt l rm v w' := Sh.SAt.step h hb
theorem key_first {w' : World} {B : Nat} {v : Value} {x : KV} {l l' : List KV} (hl : l = x :: l') (h : Sh.Own Sh.eI w' B v (l.map (·.1))) : KeyAt x.1 l.length v w' := by
 subst hl
 obtain ⟨O, cap, rfl, hc, k⟩ := h.rd
 rcases h.form with ⟨h1, h0⟩ | ⟨g, cap', h1, _, _, hlt⟩
 ·simp at h0
 ·injection h1 with e1 _ _
  subst e1
  obtain ⟨b, off, e, _, k2⟩ := k 0 x.1 rfl
  injection e with e
  injection e with e5 e6
  subst e5; subst e6
  exact ⟨g, cap, by rw [List.length_map], hlt, by simpa using k2 0 _ rfl⟩
set_option maxRecDepth 100000 in
set_option maxHeartbeats 1600000 in
theorem roomy_any {w : World} {v : Value} {l : List KV} {rm : Nat} (h : Sh.SAt w v l rm) (hrm : 0 < rm) : Calls Tryz.prog 87 #[v] w (Sh.SPost w (roomyL rm l) rm) := by
 obtain ⟨o, rfl⟩ := h.form
 have H := Lib.hid (new2 w #[.pointer o, .int .i64 (l.length : Int), .int .i64 (rm : Int)] #[.pointer none, .int .i64 ((0 : Nat) : Int), .int .i64 ((0 : Nat) : Int)] 34 34)
 have HS := Lib.hid (h.step H.out.1)
 have hle := h.le
 by_cases hl : l.length < rm
 ·have e : roomyL rm l = l := if_pos hl
  rw [e]; clear e
  have b1 : (l.length : Int) < (rm : Int) := by omega
  clear hl hle h
  go_enter Tryz.func87, Tryz.ntmps87
  go_upto_region 1 with fail
  obtain ⟨W, hW⟩ : ∃ W, (w.alloc (.cells #[.pointer o, .int .i64 (l.length : Int), .int .i64 (rm : Int)] 34)).alloc (.cells #[.pointer none, .int .i64 0, .int .i64 0] 34) = W := ⟨_, rfl⟩
  have hZ : (w.alloc (.cells #[.pointer o, .int .i64 (l.length : Int), .int .i64 (rm : Int)] 34)).alloc (.cells #[.pointer none, .int .i64 ((0 : Nat) : Int), .int .i64 ((0 : Nat) : Int)] 34) = W := hW
  rw [hZ] at H HS; rw [hW]; clear hW hZ
  have HA : Hid (SvAt W w.heap.size o l.length rm) := Lib.hid H.out.2.1
  have HQ : Hid (SvAt W (w.heap.size + 1) none 0 0) := Lib.hid H.out.2.2
  have HB := Lib.hid H.out.1; clear H
  have lo : w.heap.size ≤ w.heap.size + 1 := by omega
  generalize w.heap.size + 1 = q at *
  refine AnyOrder.region_kinds2 5 [.eq (sv o l.length rm), .eq (.int .i64 (l.length : Int)), .eq (sv o l.length rm), .eq (.int .i64 (rm : Int)), .eq (.bool true)] (fun wx => Below W.heap.size W wx) (by kernel_rfl) (by kernel_rfl) rfl (by kernel_rfl) (below_drewN (Below.refl _ _) 1) (fun p _ _ hp => by simp at hp) ?_ ?_
  ·intro i o listed a1 w2 hin ho st hl hdep
   match i, ho with
   | 0, ho => (injection ho with ho; subst ho; have e0 : a1.eval (.tmp 1) = ptr w.heap.size 0 := st.old hl 1 (by kernel_rfl); exact AnyOrder.sv rfl rfl (sv o l.length rm) (run_load_sv e0 (SvAt.rng (At.step HA.out st.inv))) st.inv (Below.refl _ _) rfl)
   | 1, ho => (injection ho with ho; subst ho; have ec := AnyOrder.evc a1; have ef := AnyOrder.evf a1; have e0 : a1.eval (.tmp 3) = sv o l.length rm := st.done 0 3 (hdep ⟨0, .data⟩ (by simp) rfl) rfl; exact AnyOrder.step_call rfl (AnyOrder.wanted_none rfl) 49 #[sv o l.length rm] (by generalize a1.eval = ρ at ec ef e0 ⊢; simp [execOp, ec, ef, e0, go_sem]) ((Sh.len_any (HS.out.step st.inv)).mono (fun e w3 h => by obtain ⟨rfl, hb⟩ := h; exact ⟨_, rfl, st.inv.trans (hb.mono st.inv.size), hb, rfl⟩)))
   | 2, ho => (injection ho with ho; subst ho; have e0 : a1.eval (.tmp 1) = ptr w.heap.size 0 := st.old hl 1 (by kernel_rfl); exact AnyOrder.sv rfl rfl (sv o l.length rm) (run_load_sv e0 (SvAt.rng (At.step HA.out st.inv))) st.inv (Below.refl _ _) rfl)
   | 3, ho => (injection ho with ho; subst ho; have ec := AnyOrder.evc a1; have ef := AnyOrder.evf a1; have e0 : a1.eval (.tmp 5) = sv o l.length rm := st.done 2 5 (hdep ⟨2, .data⟩ (by simp) rfl) rfl; exact AnyOrder.step_call rfl (AnyOrder.wanted_none rfl) 50 #[sv o l.length rm] (by generalize a1.eval = ρ at ec ef e0 ⊢; simp [execOp, ec, ef, e0, go_sem]) ((Sh.room_any (HS.out.step st.inv)).mono (fun e w3 h => by obtain ⟨rfl, hb⟩ := h; exact ⟨_, rfl, st.inv.trans (hb.mono st.inv.size), hb, rfl⟩)))
   | 4, ho => (injection ho with ho; subst ho; have ec := AnyOrder.evc a1; have ef := AnyOrder.evf a1; have e0 : a1.eval (.tmp 4) = .int .i64 (l.length : Int) := st.done 1 4 (hdep ⟨1, .data⟩ (by simp) rfl) rfl; have e1 : a1.eval (.tmp 6) = .int .i64 (rm : Int) := st.done 3 6 (hdep ⟨3, .data⟩ (by simp) rfl) rfl; exact AnyOrder.sv rfl rfl (.bool true) (by generalize a1.eval = ρ at ec ef e0 e1 ⊢; simp [execOp, ec, ef, e0, e1, IntWalk.i64_left, b1, go_sem]) st.inv (Below.refl _ _) rfl)
   | n + 5, ho => exact absurd hin (by omega)
  ·intro w2 hJ
   simp only [AnyOrder.finK, List.take_succ_cons, List.take_zero, List.drop_succ_cons, List.drop_zero, Act.put, List.setIfInBounds_toArray, List.set_cons_zero, List.set_cons_succ]
   have HA2 : Hid (SvAt w2 w.heap.size o l.length rm) := Lib.hid (At.step HA.out hJ)
   have HQ2 : Hid (SvAt w2 q none 0 0) := Lib.hid (At.step HQ.out hJ)
   have k0 : w2.cell? ⟨w.heap.size, 0, none⟩ = some (.pointer o) := HA2.out.rng 0 _ rfl
   have k1 : w2.cell? ⟨w.heap.size, 1, none⟩ = some (.int .i64 (l.length : Int)) := HA2.out.rng 1 _ rfl
   have k2 : w2.cell? ⟨w.heap.size, 2, none⟩ = some (.int .i64 (rm : Int)) := HA2.out.rng 2 _ rfl
   have HS2 := Lib.hid (HS.out.step hJ)
   go_wp2_with ((with_reducible apply wpList_store_sv (s := o) (n := l.length) (r := rm) (hq := HQ2.out)); exact rfl; exact rfl; exact rfl; exact rfl)
   refine bodyPost_ret (results_sv Tryz.results87 rfl (At.setRow HQ2.out _)) rfl ⟨_, rfl, SAt.farRow HQ2.out (by decide) (by decide) HS2.out, setRow_below (HB.out.trans (hJ.mono HB.out.size)) lo _⟩
 ·obtain ⟨x, l', hxl⟩ : ∃ x l', l = x :: l' := by
   cases l with
   | nil => simp at hl; omega
   | cons x l' => exact ⟨x, l', rfl⟩
  have e : roomyL rm l = del x.1 l := by unfold roomyL; rw [if_neg hl, hxl]
  rw [e]; clear e
  have b1 : ¬ (l.length : Int) < (rm : Int) := by omega
  have HX := Lib.hid hxl
  have HLE : Hid (l.length ≤ 65536) := Lib.hid (by omega)
  have e0 : l.length = l'.length + 1 := by rw [hxl]; rfl
  have lpos : 0 < l.length := by omega
  clear hl hle h hxl e0
  go_enter Tryz.func87, Tryz.ntmps87
  go_upto_region 1 with fail
  obtain ⟨W, hW⟩ : ∃ W, (w.alloc (.cells #[.pointer o, .int .i64 (l.length : Int), .int .i64 (rm : Int)] 34)).alloc (.cells #[.pointer none, .int .i64 0, .int .i64 0] 34) = W := ⟨_, rfl⟩
  have hZ : (w.alloc (.cells #[.pointer o, .int .i64 (l.length : Int), .int .i64 (rm : Int)] 34)).alloc (.cells #[.pointer none, .int .i64 ((0 : Nat) : Int), .int .i64 ((0 : Nat) : Int)] 34) = W := hW
  rw [hZ] at H HS; rw [hW]; clear hW hZ
  have HA : Hid (SvAt W w.heap.size o l.length rm) := Lib.hid H.out.2.1
  have HQ : Hid (SvAt W (w.heap.size + 1) none 0 0) := Lib.hid H.out.2.2
  have HB := Lib.hid H.out.1; clear H
  have lo : w.heap.size ≤ w.heap.size + 1 := by omega
  generalize w.heap.size + 1 = q at *
  refine AnyOrder.region_kinds2 5 [.eq (sv o l.length rm), .eq (.int .i64 (l.length : Int)), .eq (sv o l.length rm), .eq (.int .i64 (rm : Int)), .eq (.bool false)] (fun wx => Below W.heap.size W wx) (by kernel_rfl) (by kernel_rfl) rfl (by kernel_rfl) (below_drewN (Below.refl _ _) 1) (fun p _ _ hp => by simp at hp) ?_ ?_
  ·intro i o listed a1 w2 hin ho st hl hdep
   match i, ho with
   | 0, ho => (injection ho with ho; subst ho; have e0 : a1.eval (.tmp 1) = ptr w.heap.size 0 := st.old hl 1 (by kernel_rfl); exact AnyOrder.sv rfl rfl (sv o l.length rm) (run_load_sv e0 (SvAt.rng (At.step HA.out st.inv))) st.inv (Below.refl _ _) rfl)
   | 1, ho => (injection ho with ho; subst ho; have ec := AnyOrder.evc a1; have ef := AnyOrder.evf a1; have e0 : a1.eval (.tmp 3) = sv o l.length rm := st.done 0 3 (hdep ⟨0, .data⟩ (by simp) rfl) rfl; exact AnyOrder.step_call rfl (AnyOrder.wanted_none rfl) 49 #[sv o l.length rm] (by generalize a1.eval = ρ at ec ef e0 ⊢; simp [execOp, ec, ef, e0, go_sem]) ((Sh.len_any (HS.out.step st.inv)).mono (fun e w3 h => by obtain ⟨rfl, hb⟩ := h; exact ⟨_, rfl, st.inv.trans (hb.mono st.inv.size), hb, rfl⟩)))
   | 2, ho => (injection ho with ho; subst ho; have e0 : a1.eval (.tmp 1) = ptr w.heap.size 0 := st.old hl 1 (by kernel_rfl); exact AnyOrder.sv rfl rfl (sv o l.length rm) (run_load_sv e0 (SvAt.rng (At.step HA.out st.inv))) st.inv (Below.refl _ _) rfl)
   | 3, ho => (injection ho with ho; subst ho; have ec := AnyOrder.evc a1; have ef := AnyOrder.evf a1; have e0 : a1.eval (.tmp 5) = sv o l.length rm := st.done 2 5 (hdep ⟨2, .data⟩ (by simp) rfl) rfl; exact AnyOrder.step_call rfl (AnyOrder.wanted_none rfl) 50 #[sv o l.length rm] (by generalize a1.eval = ρ at ec ef e0 ⊢; simp [execOp, ec, ef, e0, go_sem]) ((Sh.room_any (HS.out.step st.inv)).mono (fun e w3 h => by obtain ⟨rfl, hb⟩ := h; exact ⟨_, rfl, st.inv.trans (hb.mono st.inv.size), hb, rfl⟩)))
   | 4, ho => (injection ho with ho; subst ho; have ec := AnyOrder.evc a1; have ef := AnyOrder.evf a1; have e0 : a1.eval (.tmp 4) = .int .i64 (l.length : Int) := st.done 1 4 (hdep ⟨1, .data⟩ (by simp) rfl) rfl; have e1 : a1.eval (.tmp 6) = .int .i64 (rm : Int) := st.done 3 6 (hdep ⟨3, .data⟩ (by simp) rfl) rfl; exact AnyOrder.sv rfl rfl (.bool false) (by generalize a1.eval = ρ at ec ef e0 e1 ⊢; simp [execOp, ec, ef, e0, e1, IntWalk.i64_left, b1, go_sem]) st.inv (Below.refl _ _) rfl)
   | n + 5, ho => exact absurd hin (by omega)
  ·intro w2 hJ
   simp only [AnyOrder.finK, List.take_succ_cons, List.take_zero, List.drop_succ_cons, List.drop_zero, Act.put, List.setIfInBounds_toArray, List.set_cons_zero, List.set_cons_succ]
   have HA2 : Hid (SvAt w2 w.heap.size o l.length rm) := Lib.hid (At.step HA.out hJ)
   have HQ2 : Hid (SvAt w2 q none 0 0) := Lib.hid (At.step HQ.out hJ)
   have HS2 := Lib.hid (HS.out.step hJ)
   have HB2 := Lib.hid (HB.out.trans (hJ.mono HB.out.size))
   clear HA HQ HS HB hJ
   go_upto_region 3 with fail
   refine AnyOrder.region_kinds2 6 [.eq (sv o l.length rm), .eq (sv o l.length rm), .of (KeyAt x.1 l.length), .of (PlAt x.1), .eq (.int .i64 x.1), .of (ShAt (del x.1 l) rm)] (fun wx => Below w2.heap.size w2 wx) (by kernel_rfl) (by kernel_rfl) rfl (by kernel_rfl) (below_drewN (Below.refl _ _) 1) (by intro p wa wb hp hj hb v hv; simp at hp; rcases hp with rfl | rfl | rfl <;> (first | exact KeyAt.keep hv hb | exact PlAt.keep hv hb | exact ShAt.keep hv hb | fail)) ?_ ?_
   ·intro i o listed a1 w2 hin ho st hl hdep
    match i, ho with
    | 0, ho => (injection ho with ho; subst ho; have e0 : a1.eval (.tmp 1) = ptr w.heap.size 0 := st.old hl 1 (by kernel_rfl); exact AnyOrder.sv rfl rfl (sv o l.length rm) (run_load_sv e0 (SvAt.rng (At.step HA2.out st.inv))) st.inv (Below.refl _ _) rfl)
    | 1, ho => (injection ho with ho; subst ho; have e0 : a1.eval (.tmp 1) = ptr w.heap.size 0 := st.old hl 1 (by kernel_rfl); exact AnyOrder.sv rfl rfl (sv o l.length rm) (run_load_sv e0 (SvAt.rng (At.step HA2.out st.inv))) st.inv (Below.refl _ _) rfl)
    | 2, ho => (injection ho with ho; subst ho; have ec := AnyOrder.evc a1; have ef := AnyOrder.evf a1; have e0 : a1.eval (.tmp 10) = sv o l.length rm := st.done 1 10 (hdep ⟨1, .data⟩ (by simp) rfl) rfl; exact AnyOrder.step_call rfl (AnyOrder.wanted_none rfl) 102 #[sv o l.length rm] (by generalize a1.eval = ρ at ec ef e0 ⊢; simp [execOp, ec, ef, e0, go_sem]) ((Sh.Keys_any (HS2.out.step st.inv)).mono (fun e w4 h => by obtain ⟨vk, rfl, ho, hb⟩ := h; exact ⟨_, rfl, st.inv.trans (hb.mono st.inv.size), hb, key_first HX.out ho⟩)))
    | 3, ho => (injection ho with ho; subst ho; have ec := AnyOrder.evc a1; have ef := AnyOrder.evf a1; have e0 := st.done 2 11 (hdep ⟨2, .data⟩ (by simp) rfl) rfl; obtain ⟨gk, ck, e0, hlt, hck⟩ := e0; exact AnyOrder.sv rfl rfl (ptr gk 0) (by generalize a1.eval = ρ at ec ef e0 ⊢; simp [execOp, ec, e0, go_sem, lpos]) st.inv (Below.refl _ _) ⟨gk, rfl, hlt, hck⟩)
    | 4, ho => (injection ho with ho; subst ho; have ec := AnyOrder.evc a1; have ef := AnyOrder.evf a1; have e0 := st.done 3 12 (hdep ⟨3, .data⟩ (by simp) rfl) rfl; obtain ⟨gk, e0, hlt, hck⟩ := e0; exact AnyOrder.sv rfl rfl (.int .i64 x.1) (by generalize a1.eval = ρ at ec ef e0 ⊢; simp [execOp, e0, go_sem, hck]) st.inv (Below.refl _ _) rfl)
    | 5, ho => (injection ho with ho; subst ho; have ec := AnyOrder.evc a1; have ef := AnyOrder.evf a1; have e0 : a1.eval (.tmp 9) = sv o l.length rm := st.done 0 9 (hdep ⟨0, .data⟩ (by simp) rfl) rfl; have e1 : a1.eval (.tmp 13) = .int .i64 x.1 := st.done 4 13 (hdep ⟨4, .data⟩ (by simp) rfl) rfl; exact AnyOrder.step_call rfl (AnyOrder.wanted_none rfl) 86 #[sv o l.length rm, .int .i64 x.1] (by generalize a1.eval = ρ at ec ef e0 e1 ⊢; simp [execOp, ec, ef, e0, e1, go_sem]) ((Sh.Without_any x.1 (HS2.out.step st.inv)).mono (fun e w4 h => by obtain ⟨vk, rfl, ho, hb⟩ := h; exact ⟨_, rfl, st.inv.trans (hb.mono st.inv.size), hb, ho⟩)))
    | n + 6, ho => exact absurd hin (by omega)
   ·intro w3 hJ3
    simp only [AnyOrder.finK, List.take_succ_cons, List.take_zero, List.drop_succ_cons, List.drop_zero, Act.put, List.setIfInBounds_toArray, List.set_cons_zero, List.set_cons_succ]
    intro vk hvk vp hvp vs hvs
    have hs : Sh.SAt w3 vs (del x.1 l) rm := hvs
    obtain ⟨os, rfl⟩ := hs.form
    have HQ3 : Hid (SvAt w3 q none 0 0) := Lib.hid (At.step HQ2.out hJ3)
    have HS3 := Lib.hid hs; have HB3 := Lib.hid (HB2.out.trans (hJ3.mono HB2.out.size))
    clear hvk hvp hvs hs HA2 HQ2 HS2 HB2 hJ3
    go_wp2_with ((with_reducible apply wpList_store_sv (s := os) (n := (del x.1 l).length) (r := rm) (hq := HQ3.out)); exact rfl; exact rfl; exact rfl; exact rfl)
    refine bodyPost_ret (results_sv Tryz.results87 rfl (At.setRow HQ3.out _)) rfl ⟨_, rfl, SAt.farRow HQ3.out (by decide) (by decide) HS3.out, setRow_below HB3.out lo _⟩
def withB (b : Bk) (x : Cg) : Bk :=
 if x.car ≠ 0 then { b with ix := x.ix, m := b.m.set (x.car - 1).toNat x.mode, ml := by rw [List.length_set]; exact b.ml }
 else if livesK x.k = true then { b with ix := x.ix, live := Sh.wput b.rm x.k.id x.k b.live }
 else { b with ix := x.ix, live := del x.k.id b.live, done := Sh.wput b.rm x.ix x.k (roomyL b.rm b.done) }
theorem withB_car {b : Bk} {x : Cg} (h : x.car ≠ 0) : withB b x = { b with ix := x.ix, m := b.m.set (x.car - 1).toNat x.mode, ml := by rw [List.length_set]; exact b.ml } := if_pos h
theorem withB_live {b : Bk} {x : Cg} (h : x.car = 0) (h2 : livesK x.k = true) : withB b x = { b with ix := x.ix, live := Sh.wput b.rm x.k.id x.k b.live } := by unfold withB; rw [if_neg (by simpa using h), if_pos h2]
theorem withB_done {b : Bk} {x : Cg} (h : x.car = 0) (h2 : livesK x.k = false) : withB b x = { b with ix := x.ix, live := del x.k.id b.live, done := Sh.wput b.rm x.ix x.k (roomyL b.rm b.done) } := by unfold withB; rw [if_neg (by simpa using h), if_neg (by rw [h2]; decide)]
structure WSt (w W : World) (g s q : Nat) (b : Bk) (o p : Option Addr) (x : Cg) : Prop where
 bel : Below w.heap.size w W
 bk : BkAt W g b o p
 cg : CgAt W s x
 ans : BkAt W q zb none none
 lo : w.heap.size ≤ g ∧ w.heap.size ≤ s ∧ w.heap.size ≤ q
 ne : g ≠ q
theorem WSt.new (w : World) (b : Bk) (o p : Option Addr) (x : Cg) : WSt w (((w.alloc (.cells (b.cells o p) 37)).alloc (.cells x.cells 48)).alloc (.cells Z29 37)) w.heap.size (w.heap.size + 1) (w.heap.size + 1 + 1) b o p x := by
 obtain ⟨h1, h2, h3, h4⟩ := new3 w (b.cells o p) x.cells Z29 37 48 37
 exact ⟨h1, h2, h3, h4, ⟨by omega, by omega, by omega⟩, by omega⟩
theorem WSt.step {w W W' : World} {g s q : Nat} {b : Bk} {o p : Option Addr} {x : Cg} (h : WSt w W g s q b o p x) (hb : Below W.heap.size W W') : WSt w W' g s q b o p x := ⟨h.bel.trans (hb.mono h.bel.size), h.bk.step hb, h.cg.step hb, h.ans.step hb, h.lo, h.ne⟩
theorem WSt.set {w W : World} {g s q i : Nat} {b b' : Bk} {o p o' p' : Option Addr} {x : Cg} {v : Value} (h : WSt w W g s q b o p x) (hb : BkAt (W.setCell ⟨g, i, none⟩ v) g b' o' p') : WSt w (W.setCell ⟨g, i, none⟩ v) g s q b' o' p' x :=
 ⟨h.bel.setCell h.lo.1 _, hb, At.far h.cg (At.ne h.cg h.bk (by decide)) _, At.far h.ans (Ne.symm h.ne) _, h.lo, h.ne⟩
theorem WSt.three {w W : World} {g s q i j k : Nat} {b b' : Bk} {o p o' p' : Option Addr} {x : Cg} {u v z : Value} (h : WSt w W g s q b o p x) (hb : BkAt (((W.setCell ⟨g, i, none⟩ u).setCell ⟨g, j, none⟩ v).setCell ⟨g, k, none⟩ z) g b' o' p') : WSt w (((W.setCell ⟨g, i, none⟩ u).setCell ⟨g, j, none⟩ v).setCell ⟨g, k, none⟩ z) g s q b' o' p' x :=
 ⟨((h.bel.setCell h.lo.1 _).setCell h.lo.1 _).setCell h.lo.1 _, hb, ((At.far h.cg (At.ne h.cg h.bk (by decide)) _).far (At.ne h.cg h.bk (by decide)) _).far (At.ne h.cg h.bk (by decide)) _, ((At.far h.ans (Ne.symm h.ne) _).far (Ne.symm h.ne) _).far (Ne.symm h.ne) _, h.lo, h.ne⟩
theorem SAt.three {w : World} {g i j k : Nat} {t : TypeId} {cs : Array Value} {x y z : Value} (ha : At w g t cs) (h1 : t ≠ 137) (h2 : t ≠ 119) {v : Value} {l : List KV} {room : Nat} (h : Sh.SAt w v l room) : Sh.SAt (((w.setCell ⟨g, i, none⟩ x).setCell ⟨g, j, none⟩ y).setCell ⟨g, k, none⟩ z) v l room :=
 SAt.far ((At.set (At.set ha i x) j y)) h1 h2 (SAt.far (At.set ha i x) h1 h2 (SAt.far ha h1 h2 h))
theorem WSt.fin {w W : World} {g s q : Nat} {b : Bk} {o p : Option Addr} {x : Cg} (h : WSt w W g s q b o p x) (ha : BAt W b o p) : BkAt (W.setRow q (b.cells o p)) q b o p ∧ BAns w b (.returned (b.V o p)) (W.setRow q (b.cells o p)) :=
 ⟨At.setRow h.ans _, o, p, rfl, ha.farRow h.ans (by decide) (by decide), setRow_below h.bel h.lo.2.2 _⟩
theorem run_load_kp {ρ : Operand → Value} {w : World} {x : Tmp} {g off : Nat} {c : K} {d : Option Tmp} {t : TypeId} {pos : String} {af : Array Edge} {gd : Option (Nat × Bool)} (e : ρ (.tmp x) = ptr g off) (h : w.rangeAt g off c.cells.toList) :
  (execOp ρ { dst := d, op := Op.load 46 (.tmp x), type := t, pos := pos, after := af, guard := gd }).run Tryz.prog w = .ok (.value c.V) w := by
 unfold execOp
 simp only [e, Instr.loadAt, Instr.sureAddr, Sem.run_bind, Sem.run_pure, Result.andThen_ok, run_loadVar_mid (P := Tryz.prog) w g off 46 _ _ h Tryz.underlying46 rfl (size26 c), Array.toArray_toList]
def TpAt (l : List KV) (rm : Nat) (ok : Bool) (v : Value) (w : World) : Prop := ∃ v', v = .tuple #[v', .bool ok] ∧ Sh.SAt w v' l rm
theorem TpAt.keep {l : List KV} {rm : Nat} {ok : Bool} {v : Value} {w w' : World} (h : TpAt l rm ok v w) (hb : Below w.heap.size w w') : TpAt l rm ok v w' := by
 obtain ⟨v', rfl, h⟩ := h
 exact ⟨v', rfl, h.step hb⟩
theorem run_store_dn {ρ : Operand → Value} {w : World} {x y : Tmp} {g n r : Nat} {b : Bk} {o p o' : Option Addr} {d : Option Tmp} {t : TypeId} {pos : String} {af : Array Edge} {gd : Option (Nat × Bool)} (h : BkAt w g b o p) (e1 : ρ (.tmp x) = ptr g 22) (e2 : ρ (.tmp y) = sv o' n r) :
  (execOp ρ { dst := d, op := Op.store 34 (.tmp x) (.tmp y), type := t, pos := pos, after := af, guard := gd }).run Tryz.prog w = .ok .skip (((w.setCell ⟨g, 22, none⟩ (.pointer o')).setCell ⟨g, 23, none⟩ (.int .i64 (n : Int))).setCell ⟨g, 24, none⟩ (.int .i64 (r : Int))) := by
 have ht : w.there g 22 (#[Value.pointer o', .int .i64 (n : Int), .int .i64 (r : Int)] : Array Value).size := fun j hj => by
  refine ⟨?_, At.frozen h _⟩
  match j, hj with
  | 0, _ => rw [h.k22]; rfl
  | 1, _ => rw [h.k23]; rfl
  | 2, _ => rw [h.k24]; rfl
 unfold execOp
 simp only [e1, e2, Instr.storeAt, Instr.sureAddr, Sem.run_bind, Sem.run_pure, Result.andThen_ok, run_storeVar_mid (P := Tryz.prog) w g 22 34 _ ht (size29s o' n r) (by simp [Value.oneCell'])]
 rfl
set_option maxRecDepth 100000 in
set_option maxHeartbeats 1600000 in
theorem with_car {b : Bk} {o p : Option Addr} {x : Cg} {w : World} (hb : BAt w b o p) (h0 : 1 ≤ x.car) (h4 : x.car ≤ 4) : Calls Tryz.prog 52 #[b.V o p, x.V] w (BAns w (withB b x)) := by
 have HT := Lib.hid (WSt.new w b o p x)
 rw [withB_car (by omega)]
 have HA := Lib.hid (hb.step HT.out.bel); clear hb
 obtain ⟨i, hi, hc⟩ : ∃ i : Nat, i < 4 ∧ x.car = (i : Int) + 1 := ⟨(x.car - 1).toNat, by omega, by omega⟩
 have et : (x.car - 1).toNat = i := by omega
 rw [et]
 have d1 : decide ((i : Int) + 1 = 0) = false := by simp; omega
 have n1 : ((i : Int) + 1 != 0) = true := by simp; omega
 have q1 : ((i : Int) + 1 == 0) = false := by simp; omega
 have e1 : IntKind.i64.wrap ((i : Int) + 1 - 1) = (i : Int) := by rw [IntWalk.i64_in _ (by omega)]; omega
 have b1 : (i : Int) < 4 := by omega
 have b2 : (0 : Int) ≤ (i : Int) := by omega
 have HC := Lib.hid hc; clear hc h0 h4 et
 go_enter Tryz.func52, Tryz.ntmps52
 go_upto_region 1 with fail
 obtain ⟨W, hW⟩ : ∃ W, ((w.alloc (.cells (b.cells o p) 37)).alloc (.cells x.cells 48)).alloc (.cells Z29 37) = W := ⟨_, rfl⟩
 rw [hW] at HT HA ⊢; clear hW
 generalize w.heap.size + 1 + 1 = q at HT ⊢
 generalize w.heap.size + 1 = s at HT ⊢
 generalize w.heap.size = g at HT ⊢
 have k0 := HT.out.cg.k0; have k9 := HT.out.cg.k9; have k10 := HT.out.cg.k10
 rw [HC.out] at k9
 have k18 := HT.out.bk.k18; have f18 := At.frozen HT.out.bk 18
 have H2 := Lib.hid (HT.out.set (HT.out.bk.setI x.ix))
 have A2 := Lib.hid (HA.out.far (i := 18) (u := .int .i64 x.ix) HT.out.bk (by decide) (by decide))
 have j9 := H2.out.cg.k9; have j10 := H2.out.cg.k10
 rw [HC.out] at j9
 have jM := H2.out.bk.kM hi; have fM := At.frozen H2.out.bk (25 + i)
 have H3 := Lib.hid (H2.out.set (H2.out.bk.setM hi x.mode))
 have A3 := Lib.hid (A2.out.far (i := 25 + i) (u := .int .i64 x.mode) H2.out.bk (by decide) (by decide))
 clear HT HA H2 A2
 have A4 := H3.out.fin (show BAt _ ({ b with ix := x.ix, m := b.m.set i x.mode, ml := by rw [List.length_set]; exact b.ml } : Bk) o p from A3.out)
 generalize hd : ({ b with ix := x.ix, m := b.m.set i x.mode, ml := by rw [List.length_set]; exact b.ml } : Bk) = d at H3 A4 ⊢
 have HF := Lib.hid A4; have HD := Lib.hid hd; clear A3 A4 hd
 have HG := Lib.hid H3.out.bk; have HQ := Lib.hid H3.out.ans
 go_wp2_with (first | ((with_reducible apply wpList_load_bk (h := HG.out)); exact rfl; exact rfl; exact rfl) | ((with_reducible apply wpList_store_bk (b := d) (s := o) (t := p) (hq := HQ.out)); exact rfl; exact rfl; exact rfl; exact rfl))
 exact bodyPost_ret (results_one Tryz.results52 rfl HF.out.1) rfl (by obtain rfl := HD.out; exact HF.out.2)
set_option maxRecDepth 100000 in
set_option maxHeartbeats 1600000 in
theorem with_live {b : Bk} {o p : Option Addr} {x : Cg} {w : World} (hb : BAt w b o p) (h0 : x.car = 0) (h1 : livesK x.k = true) : Calls Tryz.prog 52 #[b.V o p, x.V] w (BAns w (withB b x)) := by
 have HT := Lib.hid (WSt.new w b o p x)
 rw [withB_live h0 h1]
 have HA := Lib.hid (hb.step HT.out.bel); clear hb
 have CL0 := fun W => lives_any x.k W
 rw [h1] at CL0
 have CL := Lib.hid CL0; have HC := Lib.hid h0; clear h0 h1 CL0
 go_enter Tryz.func52, Tryz.ntmps52
 go_upto_region 1 with fail
 obtain ⟨W, hW⟩ : ∃ W, ((w.alloc (.cells (b.cells o p) 37)).alloc (.cells x.cells 48)).alloc (.cells Z29 37) = W := ⟨_, rfl⟩
 rw [hW] at HT HA ⊢; clear hW
 generalize w.heap.size + 1 + 1 = q at HT ⊢
 generalize w.heap.size + 1 = s at HT ⊢
 generalize w.heap.size = g at HT ⊢
 have k0 := HT.out.cg.k0
 have k18 := HT.out.bk.k18; have f18 := At.frozen HT.out.bk 18
 have H2 := Lib.hid (HT.out.set (HT.out.bk.setI x.ix))
 have A2 := Lib.hid (HA.out.far (i := 18) (u := .int .i64 x.ix) HT.out.bk (by decide) (by decide))
 have j9 := H2.out.cg.k9
 rw [HC.out] at j9
 clear HT HA
 have HK := Lib.hid H2.out.cg.kk
 go_upto_region 6 with fail
 go_wp2_with ((with_reducible apply wpList_load_kpart (c := x.k) (h := HK.out)); exact rfl; exact rfl; exact rfl)
 refine (CL.out _).mono ?_
 rintro e w3 ⟨rfl, hb3⟩
 have H3 := Lib.hid (H2.out.step hb3)
 have A3 : Hid (BAt w3 { b with ix := x.ix } o p) := Lib.hid (A2.out.step hb3)
 clear H2 A2 HK CL hb3 k0 k18 f18 j9
 generalize hd : ({ b with ix := x.ix } : Bk) = d at H3 A3
 have HD := Lib.hid hd; clear hd
 have HK := Lib.hid H3.out.cg.kk
 have k1 := H3.out.cg.k1; have k19 := H3.out.bk.k19; have k20 := H3.out.bk.k20; have k21 := H3.out.bk.k21
 have CW := Lib.hid (Sh.With_any x.k.id x.k A3.out.1)
 go_wp2_with (first | ((with_reducible apply wpList_load_kpart (c := x.k) (h := HK.out)); exact rfl; exact rfl; exact rfl) | (go_at_call 85; (with_reducible refine CW.out.mono ?_); rintro e w4 ⟨v4, rfl, hs4, hb4⟩; obtain ⟨o4, rfl⟩ := hs4.form; have H4 := Lib.hid (H3.out.step hb4); have A4 := Lib.hid (A3.out.step hb4); have S4 := Lib.hid hs4; clear H3 A3 HK CW k1 k19 k20 k21 hs4 hb4; have k19 := H4.out.bk.k19; have k20 := H4.out.bk.k20; have k21 := H4.out.bk.k21; have f19 := At.frozen H4.out.bk 19; have f20 := At.frozen H4.out.bk 20; have f21 := At.frozen H4.out.bk 21; have H5 := Lib.hid (H4.out.three (H4.out.bk.setL (Sh.wput d.rm x.k.id x.k d.live) o4)); have A5 := Lib.hid (H5.out.fin (show BAt _ ({ d with live := Sh.wput d.rm x.k.id x.k d.live } : Bk) o4 p from ⟨SAt.three H4.out.bk (by decide) (by decide) S4.out, SAt.three H4.out.bk (by decide) (by decide) A4.out.2⟩)); have HG := Lib.hid H5.out.bk; have HQ := Lib.hid H5.out.ans; clear H4 A4 S4 H5) | ((with_reducible apply wpList_load_bk (h := HG.out)); exact rfl; exact rfl; exact rfl) | ((with_reducible apply wpList_store_bk (b := ({ d with live := Sh.wput d.rm x.k.id x.k d.live } : Bk)) (s := o4) (t := p) (hq := HQ.out)); exact rfl; exact rfl; exact rfl; exact rfl))
 exact bodyPost_ret (results_one Tryz.results52 rfl A5.out.1) rfl (by obtain rfl := HD.out; exact A5.out.2)
set_option maxRecDepth 100000 in
set_option maxHeartbeats 1600000 in
theorem with_done {b : Bk} {o p : Option Addr} {x : Cg} {w : World} (hb : BAt w b o p) (h0 : x.car = 0) (h1 : livesK x.k = false) (hrm : 0 < b.rm) : Calls Tryz.prog 52 #[b.V o p, x.V] w (BAns w (withB b x)) := by
 have HT := Lib.hid (WSt.new w b o p x)
 rw [withB_done h0 h1]
 have HA := Lib.hid (hb.step HT.out.bel); clear hb
 have CL0 := fun W => lives_any x.k W
 rw [h1] at CL0
 have CL := Lib.hid CL0; have HC := Lib.hid h0; clear h0 h1 CL0
 go_enter Tryz.func52, Tryz.ntmps52
 go_upto_region 1 with fail
 obtain ⟨W, hW⟩ : ∃ W, ((w.alloc (.cells (b.cells o p) 37)).alloc (.cells x.cells 48)).alloc (.cells Z29 37) = W := ⟨_, rfl⟩
 rw [hW] at HT HA ⊢; clear hW
 generalize w.heap.size + 1 + 1 = q at HT ⊢
 generalize w.heap.size + 1 = s at HT ⊢
 generalize w.heap.size = g at HT ⊢
 have k0 := HT.out.cg.k0
 have k18 := HT.out.bk.k18; have f18 := At.frozen HT.out.bk 18
 have H2 := Lib.hid (HT.out.set (HT.out.bk.setI x.ix))
 have A2 := Lib.hid (HA.out.far (i := 18) (u := .int .i64 x.ix) HT.out.bk (by decide) (by decide))
 have j9 := H2.out.cg.k9
 rw [HC.out] at j9
 clear HT HA
 have HK := Lib.hid H2.out.cg.kk
 go_upto_region 6 with fail
 go_wp2_with ((with_reducible apply wpList_load_kpart (c := x.k) (h := HK.out)); exact rfl; exact rfl; exact rfl)
 refine (CL.out _).mono ?_
 rintro e w3 ⟨rfl, hb3⟩
 have H3 := Lib.hid (H2.out.step hb3)
 have A3 : Hid (BAt w3 { b with ix := x.ix } o p) := Lib.hid (A2.out.step hb3)
 clear H2 A2 HK CL hb3 k0 k18 f18 j9
 have hrd : 0 < ({ b with ix := x.ix } : Bk).rm := hrm
 generalize hd : ({ b with ix := x.ix } : Bk) = d at H3 A3 hrd
 have HD := Lib.hid hd; have HR := Lib.hid hrd; clear hd hrm hrd
 have k1 := H3.out.cg.k1; have k19 := H3.out.bk.k19; have k20 := H3.out.bk.k20; have k21 := H3.out.bk.k21
 have CW := Lib.hid (Sh.Without_any x.k.id A3.out.1)
 go_upto_region 3 with (go_at_call 86; (with_reducible refine CW.out.mono ?_); rintro e w4 ⟨v4, rfl, hs4, hb4⟩; obtain ⟨o4, rfl⟩ := hs4.form; have H4 := Lib.hid (H3.out.step hb4); have A4 := Lib.hid (A3.out.step hb4); have S4 := Lib.hid hs4; clear H3 A3 CW k1 k19 k20 k21 hs4 hb4; have k19 := H4.out.bk.k19; have k20 := H4.out.bk.k20; have k21 := H4.out.bk.k21; have f19 := At.frozen H4.out.bk 19; have f20 := At.frozen H4.out.bk 20; have f21 := At.frozen H4.out.bk 21)
 have H5 := Lib.hid (H4.out.three (H4.out.bk.setL (del x.k.id d.live) o4))
 have A5 : Hid (BAt _ ({ d with live := del x.k.id d.live } : Bk) o4 p) := Lib.hid ⟨SAt.three (i := 19) (j := 20) (k := 21) (x := .pointer o4) (y := .int .i64 ((del x.k.id d.live).length : Int)) (z := .int .i64 (d.rm : Int)) H4.out.bk (by decide) (by decide) S4.out, SAt.three H4.out.bk (by decide) (by decide) A4.out.2⟩
 clear H4 A4 S4
 obtain ⟨w5, hw5⟩ : ∃ w5, ((w4.setCell ⟨g, 19, none⟩ (.pointer o4)).setCell ⟨g, 20, none⟩ (.int .i64 ((del x.k.id d.live).length : Int))).setCell ⟨g, 21, none⟩ (.int .i64 (d.rm : Int)) = w5 := ⟨_, rfl⟩
 rw [hw5] at H5 A5 ⊢; clear hw5 k19 k20 k21 f19 f20 f21
 have hre : HR.out = HR.out := rfl
 have hrd : 0 < ({ d with live := del x.k.id d.live } : Bk).rm := HR.out
 generalize hd : ({ d with live := del x.k.id d.live } : Bk) = f at H5 A5 hrd
 have HD2 := Lib.hid hd; have HR2 := Lib.hid hrd; clear hd hrd hre HR
 refine AnyOrder.region_store2 12 [.eq (ptr g 22), .eq (sv p f.done.length f.rm), .of (ShAt (roomyL f.rm f.done) f.rm), .eq (ptr s 0), .eq (.int .i64 x.ix), .eq (ptr s 1), .eq (x.k.V), .of (TpAt (Sh.wput f.rm x.ix x.k (roomyL f.rm f.done)) f.rm (Sh.wok f.rm x.ix (roomyL f.rm f.done))), .of (TpAt (Sh.wput f.rm x.ix x.k (roomyL f.rm f.done)) f.rm (Sh.wok f.rm x.ix (roomyL f.rm f.done))), .of (ShAt (Sh.wput f.rm x.ix x.k (roomyL f.rm f.done)) f.rm), .eq (.bool (Sh.wok f.rm x.ix (roomyL f.rm f.done))), .eq (ptr g 22)] (fun wx => Below w5.heap.size w5 wx) 10 25 26 24 34 (.bool (Sh.wok f.rm x.ix (roomyL f.rm f.done))) _ _ (by kernel_rfl) (by kernel_rfl) rfl (by kernel_rfl) rfl rfl (by decide) rfl rfl rfl rfl rfl (by decide) rfl (fun a w w1 hJ hd hr hs => by obtain ⟨v', e, _⟩ := hd 8 15 (by decide) (by decide) rfl; generalize a.eval = ρ at e ⊢; simp [execOp, e, go_sem]) (below_drewN (Below.refl _ _) 1) (by intro p wa wb hp hj hb v hv; simp at hp; rcases hp with rfl | rfl | rfl | rfl <;> (first | exact ShAt.keep hv hb | exact TpAt.keep hv hb | exact TpAt.keep hv hb | exact ShAt.keep hv hb | fail)) ?_ ?_
 ·intro i o listed a1 w2 hin ho st hl hdep
  match i, ho with
  | 0, ho => (injection ho with ho; subst ho; have ec := AnyOrder.evc a1; have ef := AnyOrder.evf a1; have e0 : a1.eval (.tmp 2) = ptr g 0 := st.old hl 2 (by kernel_rfl); exact AnyOrder.sv rfl rfl (ptr g 22) (by generalize a1.eval = ρ at ec ef e0 ⊢; simp [execOp, ec, ef, e0, IntWalk.i64_left, go_sem]) st.inv (Below.refl _ _) rfl)
  | 1, ho => (injection ho with ho; subst ho; have e0 : a1.eval (.tmp 16) = ptr g 22 := st.done 0 16 (hdep ⟨0, .data⟩ (by simp) rfl) rfl; exact AnyOrder.sv rfl rfl (sv p f.done.length f.rm) (run_load_sv e0 (BkAt.dn (At.step H5.out.bk st.inv))) st.inv (Below.refl _ _) rfl)
  | 2, ho => (injection ho with ho; subst ho; have ec := AnyOrder.evc a1; have ef := AnyOrder.evf a1; have e0 : a1.eval (.tmp 17) = sv p f.done.length f.rm := st.done 1 17 (hdep ⟨1, .data⟩ (by simp) rfl) rfl; exact AnyOrder.step_call rfl (AnyOrder.wanted_none rfl) 87 #[sv p f.done.length f.rm] (by generalize a1.eval = ρ at ec ef e0 ⊢; simp [execOp, ec, ef, e0, go_sem]) ((roomy_any (A5.out.step st.inv).2 HR2.out).mono (fun e w4 h => by obtain ⟨vk, rfl, ho, hb⟩ := h; exact ⟨_, rfl, st.inv.trans (hb.mono st.inv.size), hb, ho⟩)))
  | 3, ho => (injection ho with ho; subst ho; have ec := AnyOrder.evc a1; have ef := AnyOrder.evf a1; have e0 : a1.eval (.tmp 3) = ptr s 0 := st.old hl 3 (by kernel_rfl); exact AnyOrder.sv rfl rfl (ptr s 0) (by generalize a1.eval = ρ at ec ef e0 ⊢; simp [execOp, ec, ef, e0, IntWalk.i64_left, go_sem]) st.inv (Below.refl _ _) rfl)
  | 4, ho => (injection ho with ho; subst ho; have ec := AnyOrder.evc a1; have ef := AnyOrder.evf a1; have e0 : a1.eval (.tmp 19) = ptr s 0 := st.done 3 19 (hdep ⟨3, .data⟩ (by simp) rfl) rfl; exact AnyOrder.sv rfl rfl (.int .i64 x.ix) (by have hk := CgAt.k0 (At.step H5.out.cg st.inv); generalize a1.eval = ρ at ec ef e0 ⊢; simp [execOp, e0, go_sem, hk]) st.inv (Below.refl _ _) rfl)
  | 5, ho => (injection ho with ho; subst ho; have ec := AnyOrder.evc a1; have ef := AnyOrder.evf a1; have e0 : a1.eval (.tmp 3) = ptr s 0 := st.old hl 3 (by kernel_rfl); exact AnyOrder.sv rfl rfl (ptr s 1) (by generalize a1.eval = ρ at ec ef e0 ⊢; simp [execOp, ec, ef, e0, IntWalk.i64_left, go_sem]) st.inv (Below.refl _ _) rfl)
  | 6, ho => (injection ho with ho; subst ho; have e0 : a1.eval (.tmp 21) = ptr s 1 := st.done 5 21 (hdep ⟨5, .data⟩ (by simp) rfl) rfl; exact AnyOrder.sv rfl rfl (x.k.V) (run_load_kp e0 (CgAt.kk (At.step H5.out.cg st.inv))) st.inv (Below.refl _ _) rfl)
  | 7, ho => (injection ho with ho; subst ho; have ec := AnyOrder.evc a1; have ef := AnyOrder.evf a1; have e0 := st.done 2 18 (hdep ⟨2, .data⟩ (by simp) rfl) rfl; have e1 : a1.eval (.tmp 20) = .int .i64 x.ix := st.done 4 20 (hdep ⟨4, .data⟩ (by simp) rfl) rfl; have e2 : a1.eval (.tmp 22) = x.k.V := st.done 6 22 (hdep ⟨6, .data⟩ (by simp) rfl) rfl; obtain ⟨v18, e18⟩ : ∃ v, a1.eval (.tmp 18) = v := ⟨_, rfl⟩; rw [e18] at e0; have e0 : Sh.SAt w2 v18 _ _ := e0; exact AnyOrder.step_call rfl (AnyOrder.wanted_none rfl) 85 #[v18, .int .i64 x.ix, x.k.V] (by generalize a1.eval = ρ at ec ef e18 e1 e2 ⊢; simp [execOp, ec, ef, e18, e1, e2, go_sem]) ((Sh.With_any x.ix x.k e0).mono (fun e w4 h => by obtain ⟨vk, rfl, ho, hb⟩ := h; exact ⟨_, rfl, st.inv.trans (hb.mono st.inv.size), hb, vk, rfl, ho⟩)))
  | 8, ho => (injection ho with ho; subst ho; have e0 := st.done 7 23 (hdep ⟨7, .data⟩ (by simp) rfl) rfl; obtain ⟨v18, e18⟩ : ∃ v, a1.eval (.tmp 23) = v := ⟨_, rfl⟩; rw [e18] at e0; exact AnyOrder.sv rfl rfl v18 (AnyOrder.run_move e18) st.inv (Below.refl _ _) e0)
  | 9, ho => (injection ho with ho; subst ho; have ec := AnyOrder.evc a1; have ef := AnyOrder.evf a1; have e0 := st.done 8 15 (hdep ⟨8, .data⟩ (by simp) rfl) rfl; obtain ⟨v18, e18, h18⟩ := e0; exact AnyOrder.sv rfl rfl v18 (by generalize a1.eval = ρ at ec ef e18 ⊢; simp [execOp, e18, go_sem]) st.inv (Below.refl _ _) h18)
  | 10, ho => (injection ho with ho; subst ho; have ec := AnyOrder.evc a1; have ef := AnyOrder.evf a1; have e0 := st.done 8 15 (hdep ⟨8, .data⟩ (by simp) rfl) rfl; obtain ⟨v18, e18, h18⟩ := e0; exact AnyOrder.sv rfl rfl _ (by generalize a1.eval = ρ at ec ef e18 ⊢; simp [execOp, e18, go_sem]) st.inv (Below.refl _ _) rfl)
  | 11, ho => (injection ho with ho; subst ho; have ec := AnyOrder.evc a1; have ef := AnyOrder.evf a1; have e0 : a1.eval (.tmp 2) = ptr g 0 := st.old hl 2 (by kernel_rfl); exact AnyOrder.sv rfl rfl (ptr g 22) (by generalize a1.eval = ρ at ec ef e0 ⊢; simp [execOp, ec, ef, e0, IntWalk.i64_left, go_sem]) st.inv (Below.refl _ _) rfl)
  | n + 12, ho => exact absurd hin (by omega)
 ·intro w6 hJ6
  simp only [AnyOrder.finK, List.take_succ_cons, List.take_zero, List.drop_succ_cons, List.drop_zero, Act.put, List.setIfInBounds_toArray, List.set_cons_zero, List.set_cons_succ]
  intro v2 h2 v7 h7 v8 h8 v9 h9
  have h9 : Sh.SAt w6 v9 (Sh.wput f.rm x.ix x.k (roomyL f.rm f.done)) f.rm := h9
  obtain ⟨o9, rfl⟩ := h9.form
  have H6 := Lib.hid (H5.out.step hJ6)
  have A6 := Lib.hid (A5.out.step hJ6)
  refine ⟨_, run_store_dn H6.out.bk rfl rfl, ?_⟩
  have H7 := Lib.hid (H6.out.three (H6.out.bk.setD (Sh.wput f.rm x.ix x.k (roomyL f.rm f.done)) o9))
  have A7 := Lib.hid (H7.out.fin (show BAt _ ({ f with done := Sh.wput f.rm x.ix x.k (roomyL f.rm f.done) } : Bk) o4 o9 from ⟨SAt.three H6.out.bk (by decide) (by decide) A6.out.1, SAt.three H6.out.bk (by decide) (by decide) h9⟩))
  have HG := Lib.hid H7.out.bk; have HQ := Lib.hid H7.out.ans
  clear H5 A5 H6 A6 hJ6 h2 h7 h8 h9 H7
  go_wp2_with (first | ((with_reducible apply wpList_load_bk (h := HG.out)); exact rfl; exact rfl; exact rfl) | ((with_reducible apply wpList_store_bk (b := ({ f with done := Sh.wput f.rm x.ix x.k (roomyL f.rm f.done) } : Bk)) (s := o4) (t := o9) (hq := HQ.out)); exact rfl; exact rfl; exact rfl; exact rfl))
  exact bodyPost_ret (results_one Tryz.results52 rfl A7.out.1) rfl (by obtain rfl := HD2.out; obtain rfl := HD.out; exact A7.out.2)
theorem with_any {b : Bk} {o p : Option Addr} {x : Cg} {w : World} (hb : BAt w b o p) (h : x.car = 0 ∨ 1 ≤ x.car ∧ x.car ≤ 4) (hrm : 0 < b.rm) : Calls Tryz.prog 52 #[b.V o p, x.V] w (BAns w (withB b x)) := by
 rcases h with h | ⟨h1, h2⟩
 ·cases hl : livesK x.k
  ·exact with_done hb h hl hrm
  ·exact with_live hb h hl
 ·exact with_car hb h1 h2
end Go.Proofs.YtplapoenhohliaaGreat
