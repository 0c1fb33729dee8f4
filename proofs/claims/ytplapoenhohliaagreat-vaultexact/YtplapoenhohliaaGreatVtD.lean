import Derived.Test.YtplapoenhohliaaGreatBkL
import Derived.Test.YtplapoenhohliaaGreatShH
namespace Go.Proofs.YtplapoenhohliaaGreat
open Go.RowKit Go.Lib
open Sh.Plain (KV get put del Rise)
set_option linter.unusedVariables false
set_option linter.unusedSimpArgs false
theorem made2 (v : World) (b : Bk) (o p : Option Addr) (x : Cg) : Below v.heap.size v ((((v.alloc (.cells Z29 37)).alloc (.cells Z11 48)).setRow v.heap.size (b.cells o p)).setRow (v.heap.size + 1) x.cells) ∧ BkAt ((((v.alloc (.cells Z29 37)).alloc (.cells Z11 48)).setRow v.heap.size (b.cells o p)).setRow (v.heap.size + 1) x.cells) v.heap.size b o p ∧ CgAt ((((v.alloc (.cells Z29 37)).alloc (.cells Z11 48)).setRow v.heap.size (b.cells o p)).setRow (v.heap.size + 1) x.cells) (v.heap.size + 1) x := by
 obtain ⟨h1, h2, h3⟩ := new2 v Z29 Z11 37 48
 exact ⟨setRow_below (setRow_below h1 (Nat.le_refl _) _) (by omega) _, At.farRow (At.setRow h2 _) (by omega), At.setRow (At.farRow h3 (by omega)) _⟩
def kU : K := ⟨0, 1, 2, 0, 0, 0, 0, 0⟩
def kA : K := ⟨1, 1, 2, 0, 0, 1, 7, 3⟩
def kC : K := ⟨1, 1, 2, 0, 0, 5, 7, 3⟩
def cg1 : Cg := ⟨1, kA, 0, 0⟩
def cg2 : Cg := ⟨2, kC, 0, 0⟩
def bk0 : Bk := newBk small 1
def bk1 : Bk := withB bk0 cg1
def bk2 : Bk := withB bk1 cg2
theorem ev0 : newB small = bk0 := by kernel_rfl
end Go.Proofs.YtplapoenhohliaaGreat
namespace Go.Proofs.YtplapoenhohliaaGreat
open Go.RowKit Go.Lib
set_option linter.unusedVariables false
set_option linter.unusedSimpArgs false
def keysL (c : Cfg) (r : Nat) : List Value := c.n.map (Value.int .i64) ++ [.int .u32 c.s, .pointer none, .int .i64 0, .int .i64 (r : Int)]
theorem keysL_one (c : Cfg) (r : Nat) : (keysL c r).toArray.all (·.oneCell') = true := by
 refine Array.all_eq_true_iff_forall_mem.2 fun v hv => ?_
 simp [keysL] at hv
 rcases hv with ⟨a, _, rfl⟩ | rfl | rfl | rfl | rfl <;> rfl
def keysOf (c : Cfg) (r : Nat) : Yk := ⟨(keysL c r).toArray, by simp [keysL, c.len], keysL_one c r⟩
def mkY (c : Cfg) : Yk := if okc c = true then keysOf c (c.get 5).toNat else zy
set_option maxRecDepth 100000 in
set_option maxHeartbeats 800000 in
theorem newE_any (n : Int) (w : World) : Calls Tryz.prog 43 #[.int .i64 n] w fun e w' => e = .returned (sv none 0 (Sh.rm n)) ∧ Below w.heap.size w w' := by
 by_cases h1 : n < 1
 ·have e : Sh.rm n = 0 := if_pos (.inl h1)
  rw [e]
  go_enter Tryz.func43, Tryz.ntmps43
  go_wp2
  exact bodyPost_ret (v := .agg #[.pointer none, .int .i64 0, .int .i64 0]) (by simp [results, Tryz.results43, go_sem]) rfl ⟨rfl, (Below.refl _ _).alloc (Nat.le_refl _) _⟩
 ·by_cases h2 : 65536 < n
  ·have e : Sh.rm n = 0 := if_pos (.inr h2)
   rw [e]
   go_enter Tryz.func43, Tryz.ntmps43
   go_wp2
   exact bodyPost_ret (v := .agg #[.pointer none, .int .i64 0, .int .i64 0]) (by simp [results, Tryz.results43, go_sem]) rfl ⟨rfl, (Below.refl _ _).alloc (Nat.le_refl _) _⟩
  ·have e : Sh.rm n = n.toNat := if_neg (by omega)
   rw [e]
   have hn : n = (n.toNat : Int) := by omega
   generalize n.toNat = N at *
   subst hn
   have hN : N ≤ 65536 := by omega
   go_enter Tryz.func43, Tryz.ntmps43
   go_wp2
   exact bodyPost_ret (v := .agg #[.pointer none, .int .i64 0, .int .i64 (N : Int)]) (by simp [results, Tryz.results43, go_sem]) rfl ⟨rfl, (Below.refl _ _).alloc (Nat.le_refl _) _⟩
theorem built_ky (c : Cfg) (r : Nat) : Tryz.prog.built 42 [(0, c.V), (1, sv none 0 r)] = some (keysOf c r).cs := by
 obtain ⟨n, s, hl⟩ := c
 match n, hl with
 | [a0, a1, a2, a3, a4, a5, a6, a7, a8, a9, a10, a11, a12, a13, a14, a15, a16], _ => show _ = _; kernel_rfl
theorem run_build_ky {ρ : Operand → Value} {w : World} {x y : Tmp} {c : Cfg} {r : Nat} {d : Option Tmp} {t : TypeId} {pos : String} {af : Array Edge} {gd : Option (Nat × Bool)} (e1 : ρ (.tmp x) = c.V) (e2 : ρ (.tmp y) = sv none 0 r) :
  (execOp ρ { dst := d, op := Op.build 42 #[(0, .tmp x), (1, .tmp y)], type := t, pos := pos, after := af, guard := gd }).run Tryz.prog w = .ok (.value (keysOf c r).V) w := by
 have hf : Tryz.prog.built 42 ((#[(0, Operand.tmp x), (1, .tmp y)] : Array (Nat × Operand)).map fun (i, u) => (i, ρ u)).toList = some (keysOf c r).cs := by
  simp only [List.map_toArray, List.map_cons, List.map_nil, e1, e2]
  exact built_ky c r
 unfold execOp
 simp only [Sem.run_bind, run_build w 42 _ _ hf, Result.andThen_ok, Sem.run_pure]
theorem wpList_store_yk {ops : Array Oper} {rest : List Oper} {o : Oper} {a : Act} {w : World} {Q : Exit → Act → World → Prop} (x y : Tmp) (ho : o.op = .store 42 (.tmp x) (.tmp y)) (hgd : o.guard = none) {q : Nat} {c z : Yk} (e1 : a.eval (.tmp x) = ptr q 0) (e2 : a.eval (.tmp y) = c.V) (hq : YkAt w q z)
  (k : wpList Tryz.prog ops Q rest (a.put o.dst undef) (w.setRow q c.cs)) : wpList Tryz.prog ops Q (o :: rest) a w :=
 wpList_store_row hgd 42 (.tmp x) (.tmp y) ho q c.cs e1 e2 42 z.cs hq (size42 c) (by rw [z.sz, c.sz]) c.one k
theorem results_keys {fn : Func} {p : Tmp} (h : fn.results = #[.cell p 42]) {tmps : Array Value} {w : World} {g : Nat} {k : Yk} (hp : tmps.getD p undef = ptr g 0) (hg : YkAt w g k) :
  (results fn tmps).run Tryz.prog w = .ok k.V w := by
 rw [Array.getD_eq_getD_getElem?] at hp
 have l1 : (loadVar 42 ⟨g, 0, none⟩).run Tryz.prog w = .ok k.V w := run_loadVar_row w g 42 42 k.cs (0, 0) _ hg Tryz.underlying42 rfl (size42 k)
 simp [results, h, hp, asAddr, l1]
set_option maxRecDepth 100000 in
set_option maxHeartbeats 1600000 in
theorem make_ok (c : Cfg) (w : World) (h : okc c = true) : Calls Tryz.prog 26 #[c.V] w fun e w' => e = .returned (mkY c).V ∧ Below w.heap.size w w' := by
 have H := Lib.hid (new2 w c.cells Z21 24 42)
 rw [show mkY c = keysOf c (c.get 5).toNat from if_pos h]
 have CK0 := fun W => check_any c W
 rw [chk_ok h] at CK0
 have CK := Lib.hid CK0; clear CK0
 have h5 : lo 5 ≤ c.get 5 ∧ c.get 5 ≤ hi 5 := ok_at h (by decide)
 have h5 : (1 : Int) ≤ c.get 5 ∧ c.get 5 ≤ 64 := h5
 have erm : Sh.rm (c.get 5) = (c.get 5).toNat := if_neg (by omega)
 have HOK := Lib.hid h; have HRM := Lib.hid erm
 clear h h5 erm
 go_enter Tryz.func26, Tryz.ntmps26
 go_upto_region 1 with fail
 obtain ⟨W, hW⟩ : ∃ W, (w.alloc (.cells c.cells 24)).alloc (.cells Z21 42) = W := ⟨_, rfl⟩
 rw [hW] at H ⊢; clear hW
 have HC0 : Hid (CAt W w.heap.size c) := Lib.hid H.out.2.1
 have HQ0 : Hid (YkAt W (w.heap.size + 1) zy) := Lib.hid H.out.2.2
 have HB0 := Lib.hid H.out.1; clear H
 have lo : w.heap.size ≤ w.heap.size + 1 := by omega
 generalize w.heap.size + 1 = q at *
 go_wp2_with ((with_reducible apply wpList_load_cat (h := HC0.out)); exact rfl; exact rfl; exact rfl)
 refine (CK.out _).mono ?_
 rintro e w1 ⟨rfl, hb1⟩
 have HQ : Hid (YkAt w1 q zy) := Lib.hid (HQ0.out.step hb1)
 have HC : Hid (CAt w1 w.heap.size c) := Lib.hid (HC0.out.step hb1)
 have HB := Lib.hid (HB0.out.trans (hb1.mono HB0.out.size))
 clear HC0 HQ0 HB0 CK hb1
 go_upto_region 3 with fail
 refine AnyOrder.region_kinds2 5 [.eq (c.V), .eq (ptr w.heap.size 5), .eq (.int .i64 (c.get 5)), .eq (sv none 0 (c.get 5).toNat), .eq ((keysOf c (c.get 5).toNat).V)] (fun wx => Below w1.heap.size w1 wx) (by kernel_rfl) (by kernel_rfl) rfl (by kernel_rfl) (below_drewN (Below.refl _ _) 1) (fun p _ _ hp => by simp at hp) ?_ ?_
 ·intro i o listed a1 w2 hin ho st hl hdep
  match i, ho with
  | 0, ho => (injection ho with ho; subst ho; have e0 : a1.eval (.tmp 1) = ptr w.heap.size 0 := st.old hl 1 (by kernel_rfl); exact AnyOrder.sv rfl rfl (c.V) (run_load_cfg e0 (CAt.step HC.out st.inv)) st.inv (Below.refl _ _) rfl)
  | 1, ho => (injection ho with ho; subst ho; have ec := AnyOrder.evc a1; have ef := AnyOrder.evf a1; have e0 : a1.eval (.tmp 1) = ptr w.heap.size 0 := st.old hl 1 (by kernel_rfl); exact AnyOrder.sv rfl rfl (ptr w.heap.size 5) (by generalize a1.eval = ρ at ec ef e0 ⊢; simp [execOp, ec, ef, e0, IntWalk.i64_left, go_sem]) st.inv (Below.refl _ _) rfl)
  | 2, ho => (injection ho with ho; subst ho; have ec := AnyOrder.evc a1; have ef := AnyOrder.evf a1; have e0 : a1.eval (.tmp 8) = ptr w.heap.size 5 := st.done 1 8 (hdep ⟨1, .data⟩ (by simp) rfl) rfl; exact AnyOrder.sv rfl rfl (.int .i64 (c.get 5)) (by have hk := CAt.get (CAt.step HC.out st.inv) (k := 5) (by decide); generalize a1.eval = ρ at ec ef e0 ⊢; simp [execOp, e0, go_sem, hk]) st.inv (Below.refl _ _) rfl)
  | 3, ho => (injection ho with ho; subst ho; have ec := AnyOrder.evc a1; have ef := AnyOrder.evf a1; have e0 : a1.eval (.tmp 9) = .int .i64 (c.get 5) := st.done 2 9 (hdep ⟨2, .data⟩ (by simp) rfl) rfl; exact AnyOrder.step_call rfl (AnyOrder.wanted_none rfl) 43 #[.int .i64 (c.get 5)] (by generalize a1.eval = ρ at ec ef e0 ⊢; simp [execOp, ec, ef, e0, go_sem]) (((show Calls _ _ _ w2 (fun e w4 => e = .returned (sv none 0 (c.get 5).toNat) ∧ Below w2.heap.size w2 w4) from by have h := newE_any (c.get 5) w2; rwa [HRM.out] at h)).mono (fun e w3 h => by obtain ⟨rfl, hb⟩ := h; exact ⟨_, rfl, st.inv.trans (hb.mono st.inv.size), hb, rfl⟩)))
  | 4, ho => (injection ho with ho; subst ho; have e0 : a1.eval (.tmp 7) = c.V := st.done 0 7 (hdep ⟨0, .data⟩ (by simp) rfl) rfl; have e1 : a1.eval (.tmp 10) = sv none 0 (c.get 5).toNat := st.done 3 10 (hdep ⟨3, .data⟩ (by simp) rfl) rfl; exact AnyOrder.sv rfl rfl ((keysOf c (c.get 5).toNat).V) (run_build_ky e0 e1) st.inv (Below.refl _ _) rfl)
  | n + 5, ho => exact absurd hin (by omega)
 ·intro w3 hJ3
  simp only [AnyOrder.finK, List.take_succ_cons, List.take_zero, List.drop_succ_cons, List.drop_zero, Act.put, List.setIfInBounds_toArray, List.set_cons_zero, List.set_cons_succ]
  have HQ3 : Hid (YkAt w3 q zy) := Lib.hid (At.step HQ.out hJ3)
  have HB3 := Lib.hid (HB.out.trans (hJ3.mono HB.out.size))
  clear HQ HC HB hJ3
  go_wp2_with ((with_reducible apply wpList_store_yk (c := keysOf c (c.get 5).toNat) (hq := HQ3.out)); exact rfl; exact rfl; exact rfl; exact rfl)
  exact bodyPost_ret (results_keys Tryz.results26 rfl (At.setRow HQ3.out _)) rfl ⟨rfl, setRow_below HB3.out lo _⟩
theorem newBk_none {c : Cfg} (h : okc c = true) (w : World) : Calls Tryz.prog 25 #[c.V] w fun e w' => e = .returned ((newB c).V none none) ∧ Below w.heap.size w w' := by
 refine (newBook_any c w).mono ?_
 rintro e w' ⟨o, p, rfl, ha, hb⟩
 have hn : newB c = newBk c (c.get 1).toNat := if_pos h
 rw [hn] at ha ⊢
 obtain ⟨⟨vt, t, e1, ht, hk, _⟩, ⟨vt2, t2, e2, ht2, hk2, _⟩⟩ := ha
 have k1 : ∀ {vt : Value} {t : Sh.Plain.T} {q : Option Addr} {n r : Nat}, sv q n r = .agg #[vt, .int .i64 (n : Int), .int .i64 (r : Int)] → Sh.TAt w' w'.heap.size vt t → t.kvs = [] → q = none := by
  intro vt t q n r e ht hk
  cases t with
  | nil =>
   obtain rfl : vt = .pointer none := ht
   injection e with e
   injection e with e
   injection e with e _
   injection e
  | node l p x r => rw [Sh.Plain.T.kvs_node] at hk; simp at hk
 obtain rfl := k1 e1 ht hk
 obtain rfl := k1 e2 ht2 hk2
 exact ⟨rfl, hb⟩
theorem built_sp (b : Bk) (o p : Option Addr) (k : Yk) : Tryz.prog.built 44 [(0, b.V o p), (1, k.V)] = some (⟨b, o, p, k, 0⟩ : Sp).cells := by
 obtain ⟨⟨n, s, hl⟩, ix, lv, dn, rm, m, ml⟩ := b
 obtain ⟨⟨cs⟩, sz, one⟩ := k
 have sz' : cs.length = 21 := sz
 match n, hl, m, ml, cs, sz' with
 | [a0, a1, a2, a3, a4, a5, a6, a7, a8, a9, a10, a11, a12, a13, a14, a15, a16], _, [m0, m1, m2, m3], _, [k0, k1, k2, k3, k4, k5, k6, k7, k8, k9, k10, k11, k12, k13, k14, k15, k16, k17, k18, k19, k20], _ => show _ = _; kernel_rfl
theorem built_vt (s : Sp) : Tryz.prog.built 82 [(0, s.V)] = some (⟨s, .slice none 0 0, 0, 0⟩ : Vt).cells := by
 obtain ⟨⟨⟨n, s, hl⟩, ix, lv, dn, rm, m, ml⟩, o, p, ⟨⟨cs⟩, sz, one⟩, t⟩ := s
 have sz' : cs.length = 21 := sz
 match n, hl, m, ml, cs, sz' with
 | [a0, a1, a2, a3, a4, a5, a6, a7, a8, a9, a10, a11, a12, a13, a14, a15, a16], _, [m0, m1, m2, m3], _, [k0, k1, k2, k3, k4, k5, k6, k7, k8, k9, k10, k11, k12, k13, k14, k15, k16, k17, k18, k19, k20], _ => show _ = _; kernel_rfl
theorem run_build_sp {ρ : Operand → Value} {w : World} {x y : Tmp} {b : Bk} {o p : Option Addr} {k : Yk} {d : Option Tmp} {t : TypeId} {pos : String} {af : Array Edge} {gd : Option (Nat × Bool)} (e1 : ρ (.tmp x) = b.V o p) (e2 : ρ (.tmp y) = k.V) :
  (execOp ρ { dst := d, op := Op.build 44 #[(0, .tmp x), (1, .tmp y)], type := t, pos := pos, after := af, guard := gd }).run Tryz.prog w = .ok (.value (⟨b, o, p, k, 0⟩ : Sp).V) w := by
 have hf : Tryz.prog.built 44 ((#[(0, Operand.tmp x), (1, .tmp y)] : Array (Nat × Operand)).map fun (i, u) => (i, ρ u)).toList = some (⟨b, o, p, k, 0⟩ : Sp).cells := by
  simp only [List.map_toArray, List.map_cons, List.map_nil, e1, e2]
  exact built_sp b o p k
 unfold execOp
 simp only [Sem.run_bind, run_build w 44 _ _ hf, Result.andThen_ok, Sem.run_pure]
end Go.Proofs.YtplapoenhohliaaGreat
namespace Go.Proofs.YtplapoenhohliaaGreat
open Go.RowKit Go.Lib
set_option linter.unusedVariables false
set_option linter.unusedSimpArgs false
def newV (c : Cfg) : Vt := ⟨⟨newB c, none, none, mkY c, 0⟩, .slice none 0 0, 0, 0⟩
theorem run_build_vt {ρ : Operand → Value} {w : World} {x : Tmp} {c : Sp} {d : Option Tmp} {t : TypeId} {pos : String} {af : Array Edge} {gd : Option (Nat × Bool)} (e : ρ (.tmp x) = c.V) :
  (execOp ρ { dst := d, op := Op.build 82 #[(0, .tmp x)], type := t, pos := pos, after := af, guard := gd }).run Tryz.prog w = .ok (.value (⟨c, .slice none 0 0, 0, 0⟩ : Vt).V) w := by
 have hf : Tryz.prog.built 82 ((#[(0, Operand.tmp x)] : Array (Nat × Operand)).map fun (i, u) => (i, ρ u)).toList = some (⟨c, .slice none 0 0, 0, 0⟩ : Vt).cells := by
  simp only [List.map_toArray, List.map_cons, List.map_nil, e]
  exact built_vt c
 unfold execOp
 simp only [Sem.run_bind, run_build w 82 _ _ hf, Result.andThen_ok, Sem.run_pure]
theorem run_box_vt {ρ : Operand → Value} {w : World} {x : Tmp} {c : Vt} {d : Option Tmp} {t : TypeId} {pos : String} {af : Array Edge} {gd : Option (Nat × Bool)} (e : ρ (.tmp x) = c.V) :
  (execOp ρ { dst := d, op := Op.box 82 (.tmp x), type := t, pos := pos, after := af, guard := gd }).run Tryz.prog w = .ok (.value (ptr w.heap.size 0)) (w.alloc (.cells c.cells 82)) := by
 simp [execOp, go_sem, e]
set_option maxRecDepth 100000 in
set_option maxHeartbeats 1600000 in
theorem vnew_no (c : Cfg) (w : World) (h : okc c = false) : Calls Tryz.prog 5 #[c.V] w fun e w' => e = .returned (.pointer none) ∧ Below w.heap.size w w' := by
 have H := Lib.hid (new1 w c.cells 24)
 have CK0 := fun W => check_any c W
 rw [chk_no h] at CK0
 have CK := Lib.hid CK0; clear CK0 h
 go_enter Tryz.func5, Tryz.ntmps5
 go_upto_region 1 with fail
 obtain ⟨W, hW⟩ : ∃ W, w.alloc (.cells c.cells 24) = W := ⟨_, rfl⟩
 rw [hW] at H ⊢; clear hW
 have HC : Hid (CAt W w.heap.size c) := Lib.hid H.out.2
 have HB := Lib.hid H.out.1; clear H
 go_wp2_with ((with_reducible apply wpList_load_cat (h := HC.out)); exact rfl; exact rfl; exact rfl)
 refine (CK.out _).mono ?_
 rintro e w1 ⟨rfl, hb1⟩
 go_wp2_with fail
 go_ret
 exact ⟨rfl, HB.out.trans (hb1.mono HB.out.size)⟩
set_option maxRecDepth 100000 in
set_option maxHeartbeats 1600000 in
theorem vnew_ok (c : Cfg) (w : World) (h : okc c = true) : Calls Tryz.prog 5 #[c.V] w fun e w' => ∃ g, e = .returned (ptr g 0) ∧ w.heap.size ≤ g ∧ VtAt w' g (newV c) ∧ Below w.heap.size w w' := by
 have H := Lib.hid (new1 w c.cells 24)
 have CK0 := fun W => check_any c W
 rw [chk_ok h] at CK0
 have CK := Lib.hid CK0; clear CK0
 have CN := Lib.hid (fun W => newBk_none h W)
 have CM := Lib.hid (fun W => make_ok c W h)
 clear h
 go_enter Tryz.func5, Tryz.ntmps5
 go_upto_region 1 with fail
 obtain ⟨W, hW⟩ : ∃ W, w.alloc (.cells c.cells 24) = W := ⟨_, rfl⟩
 rw [hW] at H ⊢; clear hW
 have HC0 : Hid (CAt W w.heap.size c) := Lib.hid H.out.2
 have HB0 := Lib.hid H.out.1; clear H
 go_wp2_with ((with_reducible apply wpList_load_cat (h := HC0.out)); exact rfl; exact rfl; exact rfl)
 refine (CK.out _).mono ?_
 rintro e w1 ⟨rfl, hb1⟩
 have HC : Hid (CAt w1 w.heap.size c) := Lib.hid (HC0.out.step hb1)
 have HB := Lib.hid (HB0.out.trans (hb1.mono HB0.out.size))
 clear HC0 HB0 CK hb1
 go_upto_region 3 with fail
 refine AnyOrder.region_kinds2 7 [.eq (c.V), .eq ((newB c).V none none), .eq (c.V), .eq ((mkY c).V), .eq ((⟨newB c, none, none, mkY c, 0⟩ : Sp).V), .eq ((newV c).V), .of (AnyOrder.Fresh w1 82 (newV c).cells)] (fun wx => Below w1.heap.size w1 wx) (by kernel_rfl) (by kernel_rfl) rfl (by kernel_rfl) (below_drewN (Below.refl _ _) 1) (fun p w w2 hp _ hb v hv => by simp at hp; subst hp; exact AnyOrder.Fresh.keep hv hb) ?_ ?_
 ·intro i o listed a1 w2 hin ho st hl hdep
  match i, ho with
  | 0, ho => (injection ho with ho; subst ho; have e0 : a1.eval (.tmp 1) = ptr w.heap.size 0 := st.old hl 1 (by kernel_rfl); exact AnyOrder.sv rfl rfl (c.V) (run_load_cfg e0 (CAt.step HC.out st.inv)) st.inv (Below.refl _ _) rfl)
  | 1, ho => (injection ho with ho; subst ho; have ec := AnyOrder.evc a1; have ef := AnyOrder.evf a1; have e0 : a1.eval (.tmp 6) = c.V := st.done 0 6 (hdep ⟨0, .data⟩ (by simp) rfl) rfl; exact AnyOrder.step_call rfl (AnyOrder.wanted_none rfl) 25 #[c.V] (by generalize a1.eval = ρ at ec ef e0 ⊢; simp [execOp, ec, ef, e0, go_sem]) (((CN.out w2)).mono (fun e w3 h => by obtain ⟨rfl, hb⟩ := h; exact ⟨_, rfl, st.inv.trans (hb.mono st.inv.size), hb, rfl⟩)))
  | 2, ho => (injection ho with ho; subst ho; have e0 : a1.eval (.tmp 1) = ptr w.heap.size 0 := st.old hl 1 (by kernel_rfl); exact AnyOrder.sv rfl rfl (c.V) (run_load_cfg e0 (CAt.step HC.out st.inv)) st.inv (Below.refl _ _) rfl)
  | 3, ho => (injection ho with ho; subst ho; have ec := AnyOrder.evc a1; have ef := AnyOrder.evf a1; have e0 : a1.eval (.tmp 8) = c.V := st.done 2 8 (hdep ⟨2, .data⟩ (by simp) rfl) rfl; exact AnyOrder.step_call rfl (AnyOrder.wanted_none rfl) 26 #[c.V] (by generalize a1.eval = ρ at ec ef e0 ⊢; simp [execOp, ec, ef, e0, go_sem]) (((CM.out w2)).mono (fun e w3 h => by obtain ⟨rfl, hb⟩ := h; exact ⟨_, rfl, st.inv.trans (hb.mono st.inv.size), hb, rfl⟩)))
  | 4, ho => (injection ho with ho; subst ho; have e0 : a1.eval (.tmp 7) = (newB c).V none none := st.done 1 7 (hdep ⟨1, .data⟩ (by simp) rfl) rfl; have e1 : a1.eval (.tmp 9) = (mkY c).V := st.done 3 9 (hdep ⟨3, .data⟩ (by simp) rfl) rfl; exact AnyOrder.sv rfl rfl ((⟨newB c, none, none, mkY c, 0⟩ : Sp).V) (run_build_sp e0 e1) st.inv (Below.refl _ _) rfl)
  | 5, ho => (injection ho with ho; subst ho; have e0 : a1.eval (.tmp 10) = (⟨newB c, none, none, mkY c, 0⟩ : Sp).V := st.done 4 10 (hdep ⟨4, .data⟩ (by simp) rfl) rfl; exact AnyOrder.sv rfl rfl ((newV c).V) (run_build_vt e0) st.inv (Below.refl _ _) rfl)
  | 6, ho => (injection ho with ho; subst ho; have e0 : a1.eval (.tmp 11) = (newV c).V := st.done 5 11 (hdep ⟨5, .data⟩ (by simp) rfl) rfl; exact AnyOrder.sv rfl rfl (ptr w2.heap.size 0) (run_box_vt e0) (st.inv.alloc st.inv.size _) (below_new _ _) ⟨_, rfl, st.inv.size, by simp, heap_alloc_new _ _⟩)
  | n + 7, ho => exact absurd hin (by omega)
 ·intro w3 hJ3
  simp only [AnyOrder.finK, List.take_succ_cons, List.take_zero, List.drop_succ_cons, List.drop_zero, Act.put, List.setIfInBounds_toArray, List.set_cons_zero, List.set_cons_succ]
  rintro v ⟨t, rfl, lt1, lt2, ht⟩
  have HT : Hid (VtAt w3 t (newV c)) := Lib.hid ht
  have HB3 := Lib.hid (HB.out.trans (hJ3.mono HB.out.size))
  have HL := Lib.hid (Nat.le_trans HB.out.size lt1)
  clear HC HB hJ3 ht lt1 lt2
  go_wp2_with fail
  go_ret
  exact ⟨t, rfl, HL.out, HT.out, HB3.out⟩
set_option maxRecDepth 100000 in
set_option maxHeartbeats 800000 in
theorem vread_nil (w : World) : Calls Tryz.prog 12 #[.pointer none] w fun e w' => e = .returned zs.V ∧ Below w.heap.size w w' := by
 have H := Lib.hid (new1 w Z51 44)
 go_enter Tryz.func12, Tryz.ntmps12
 go_upto_region 2 with fail
 obtain ⟨W, hW⟩ : ∃ W, w.alloc (.cells Z51 44) = W := ⟨_, rfl⟩
 rw [hW] at H ⊢; clear hW
 have HQ : Hid (SpAt W w.heap.size zs) := Lib.hid H.out.2
 have HB := Lib.hid H.out.1; clear H
 go_wp2_with (first | ((with_reducible apply wpList_build_zs); exact rfl; exact rfl) | ((with_reducible apply wpList_store_sp (c := zs) (hq := HQ.out)); exact rfl; exact rfl; exact rfl; exact rfl))
 exact bodyPost_ret (results_snap Tryz.results12 rfl (At.setRow HQ.out _)) rfl ⟨rfl, setRow_below HB.out (Nat.le_refl _) _⟩
set_option maxRecDepth 100000 in
set_option maxHeartbeats 800000 in
theorem vread_any {x : Vt} {g : Nat} {w : World} (h : VtAt w g x) : Calls Tryz.prog 12 #[ptr g 0] w fun e w' => e = .returned x.s.V ∧ Below w.heap.size w w' := by
 have H := Lib.hid (new1 w Z51 44)
 have HV0 := Lib.hid h; clear h
 go_enter Tryz.func12, Tryz.ntmps12
 go_upto_region 3 with fail
 obtain ⟨W, hW⟩ : ∃ W, w.alloc (.cells Z51 44) = W := ⟨_, rfl⟩
 rw [hW] at H ⊢; clear hW
 have HQ : Hid (SpAt W w.heap.size zs) := Lib.hid H.out.2
 have HB := Lib.hid H.out.1; clear H
 have HV := Lib.hid (VtAt.rng (At.step HV0.out HB.out)); clear HV0
 go_wp2_with (first | ((with_reducible apply wpList_load_spm (c := x.s) (h := HV.out)); exact rfl; exact rfl; exact rfl) | ((with_reducible apply wpList_store_sp (c := x.s) (hq := HQ.out)); exact rfl; exact rfl; exact rfl; exact rfl))
 exact bodyPost_ret (results_snap Tryz.results12 rfl (At.setRow HQ.out _)) rfl ⟨rfl, setRow_below HB.out (Nat.le_refl _) _⟩
set_option maxHeartbeats 400000 in
theorem kept_nil (w : World) : Calls Tryz.prog 11 #[.pointer none] w fun e w' => e = .returned (.int .i64 0) ∧ w = w' := by
 go_enter Tryz.func11, Tryz.ntmps11
 go_wp2
 go_ret
 exact ⟨rfl, rfl⟩
set_option maxHeartbeats 400000 in
theorem kept_any {x : Vt} {g n cap : Nat} {O : Option Addr} {w : World} (h : VtAt w g x) (hv : x.v = .slice O n cap) : Calls Tryz.prog 11 #[ptr g 0] w fun e w' => e = .returned (.int .i64 (n : Int)) ∧ w = w' := by
 have k51 := VtAt.k51 h
 rw [hv] at k51
 clear h hv
 go_enter Tryz.func11, Tryz.ntmps11
 go_wp2
 go_ret
 exact ⟨rfl, rfl⟩
set_option maxHeartbeats 400000 in
theorem tries_any {x : Vt} {g : Nat} {w : World} (h : VtAt w g x) : Calls Tryz.prog 22 #[ptr g 0] w fun e w' => e = .returned (.tuple #[.int .i64 x.n, .int .i64 x.m]) ∧ ∃ n, w' = w.drewN n := by
 have k52 := VtAt.k52 h
 have k53 := VtAt.k53 h
 generalize x.n = n at *
 generalize x.m = m at *
 clear h
 go_enter Tryz.func22, Tryz.ntmps22
 go_wp2_with fail
 go_quiet (fail)
 go_wp2_with fail
 go_ret2
 exact ⟨rfl, _, rfl⟩
set_option maxHeartbeats 400000 in
theorem tick_nil (w : World) : Calls Tryz.prog 8 #[.pointer none] w fun e w' => e = .returned (.bool false) ∧ w = w' := by
 go_enter Tryz.func8, Tryz.ntmps8
 go_wp2
 go_ret
 exact ⟨rfl, rfl⟩
set_option maxHeartbeats 400000 in
theorem tick_any {x : Vt} {g : Nat} {w : World} (h : VtAt w g x) (h0 : 0 ≤ x.s.t) (h1 : x.s.t < 1000) : Calls Tryz.prog 8 #[ptr g 0] w fun e w' => e = .returned (.bool true) ∧ VtAt w' g { x with s := { x.s with t := x.s.t + 1 } } ∧ Chg w w' (fun k => k = g) := by
 have k50 := VtAt.k50 h
 have f50 := At.frozen h 50
 have HV := Lib.hid h
 have hw : IntKind.i64.wrap (x.s.t + 1) = x.s.t + 1 := IntWalk.i64_in _ (by omega)
 have hd : (x.s.t == 1073741824) = false := by simpa using (show x.s.t ≠ 1073741824 by omega)
 have HC := Lib.hid (chg_setCell w g 50 (.int .i64 (x.s.t + 1)))
 have HT := Lib.hid (VtAt.setT h (x.s.t + 1))
 clear h
 generalize x.s.t = t at *
 go_enter Tryz.func8, Tryz.ntmps8
 go_wp2
 go_ret
 exact ⟨rfl, HT.out, HC.out⟩
end Go.Proofs.YtplapoenhohliaaGreat
