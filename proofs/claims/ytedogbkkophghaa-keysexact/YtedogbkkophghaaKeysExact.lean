/- The walk of KeysExact. -/
import Derived.Test.YtedogbkkophghaaKyX
import Derived.Laws.Concat
namespace Go.Proofs.Ytedogbkkophghaa
open Go.RowKit Go.Lib
open Sh.Plain (KV get put Rise)
set_option linter.unusedVariables false
set_option linter.unusedSimpArgs false

theorem run_bang2 {ρ : Operand → Value} {w : World} {x : Tmp} {d : Option Tmp} {t t2 : TypeId} {pos : String} {af : Array Edge} {gd : Option (Nat × Bool)} {s : ByteArray} (e : ρ (.tmp x) = .string s) (ec : ∀ v, ρ (.const v) = v) (hs : s.size ≤ 40) :
    (execOp ρ { dst := d, op := Op.binOp .add 9 (.tmp x) (.const (.string ⟨#[33]⟩)) t2, type := t, pos := pos, after := af, guard := gd }).run Try.prog w = .ok (.value (.string (s ++ bang))) w := by
  have h := run_string_add_sum (P := Try.prog) (w := w) s bang (by have : bang.size = 1 := rfl; omega)
  have hb : (⟨#[33]⟩ : ByteArray) = bang := rfl
  simp [execOp, e, ec, go_sem, hb, h]
theorem wpList_bang2 {ops : Array Oper} {rest : List Oper} {o : Oper} {a : Act} {w : World} {Q : Exit → Act → World → Prop} {s : ByteArray} (hs : s.size ≤ 40) (x : Tmp) (t2 : TypeId) (ho : o.op = Op.binOp .add 9 (.tmp x) (.const (.string ⟨#[33]⟩)) t2) (hgd : Region.wanted o (yielded ops a.tmps) = true) (e : a.eval (.tmp x) = .string s)
    (k : wpList Try.prog ops Q rest (a.put o.dst (.string (s ++ bang))) w) : wpList Try.prog ops Q (o :: rest) a w := by
  obtain ⟨d, op, t, pos, af, gd⟩ := o
  subst ho
  exact wpList_run hgd _ (run_bang2 e (fun _ => rfl) hs) k
theorem run_build_zyG {ρ : Operand → Value} {w : World} {d : Option Tmp} {t : TypeId} {pos : String} {af : Array Edge} {gd : Option (Nat × Bool)} :
    (execOp ρ { dst := d, op := Op.build 31 #[], type := t, pos := pos, after := af, guard := gd }).run Try.prog w = .ok (.value (zy.V none)) w := by
  have hf : Try.prog.built 31 ((#[] : Array (Nat × Operand)).map fun (i, u) => (i, ρ u)).toList = some (zy.cells none) := by kernel_rfl
  unfold execOp
  simp only [Sem.run_bind, run_build w 31 _ _ hf, Result.andThen_ok, Sem.run_pure]
theorem wpList_build_zyG {ops : Array Oper} {rest : List Oper} {o : Oper} {a : Act} {w : World} {Q : Exit → Act → World → Prop} (ho : o.op = .build 31 #[]) (hgd : Region.wanted o (yielded ops a.tmps) = true) (k : wpList Try.prog ops Q rest (a.put o.dst (zy.V none)) w) : wpList Try.prog ops Q (o :: rest) a w := by
  obtain ⟨d, op, t, pos, af, gd⟩ := o
  subst ho
  exact wpList_run hgd _ run_build_zyG k
set_option maxRecDepth 100000 in
set_option maxHeartbeats 12000000 in
theorem keysExact_walk (c : Cfg) (A : Option Addr) (cap : Nat) (acts : List Ac) (tk : Int) (w : World) (hok : ∀ z ∈ acts, z.Ok) (hA : ActsAt w w.heap.size A acts) (hml : acts.length ≤ maxLen) :
    Calls Try.prog 3 #[c.V, .slice A acts.length cap, .int .i64 tk] w fun e w' => e = .returned (.bool true) ∧ Below w.heap.size w w' := by
  have H := Lib.hid (new1 w c.cells 24)
  have HOK := Lib.hid hok; have HA := Lib.hid hA
  have CM := Lib.hid (fun W => make_any c W)
  have CG := Lib.hid (fun W => good_any c W)
  have HI0 := Lib.hid (KI.new c)
  have HNIL := Lib.hid (make_nil c)
  obtain ⟨N, hN⟩ : ∃ N, acts.length = N := ⟨_, rfl⟩
  have HN := Lib.hid hN
  rw [hN] at hml ⊢
  clear hok hA hN hml
  go_enter Try.func3, Try.ntmps3
  go_upto_region 1 with fail
  obtain ⟨W0, hW⟩ : ∃ W0, w.alloc (.cells c.cells 24) = W0 := ⟨_, rfl⟩
  rw [hW] at H ⊢; clear hW
  have KC0 : Hid (CAt W0 w.heap.size c) := Lib.hid H.out.2
  have HB0 := Lib.hid H.out.1; clear H
  have CA := Lib.hid (awake_any W0)
  go_wp2_with fail
  refine CA.out.mono ?_
  rintro e w1 ⟨rfl, hb1⟩
  have KC1 : Hid (CAt w1 w.heap.size c) := Lib.hid (At.step KC0.out hb1)
  have HB := Lib.hid (HB0.out.trans (hb1.mono HB0.out.size))
  clear KC0 HB0 CA hb1
  go_upto_region 4 with (first | ((with_reducible apply wpList_load_cat (h := KC1.out)); exact rfl; exact rfl; exact rfl) | (go_at_call 8; (with_reducible refine (CM.out _).mono ?_); rintro e v0 ⟨o0, rfl, ha0, hb0⟩) | ((with_reducible apply wpList_store_kynew (b := makeK c) (s := o0)); exact rfl; exact rfl; exact rfl; exact rfl))
  have hn := below_new v0 (.cells ((makeK c).cells o0) 31)
  have hk := KyAt.new v0 (makeK c) o0
  have hy := ha0.step hn
  have hc := At.step (At.step KC1.out hb0) hn
  have hbb := (HB.out.trans (hb0.mono HB.out.size)).trans (hn.mono (HB.out.trans (hb0.mono HB.out.size)).size)
  have hlo := (HB.out.trans (hb0.mono HB.out.size)).size
  obtain ⟨W1, hW⟩ : ∃ W1, v0.alloc (.cells ((makeK c).cells o0) 31) = W1 := ⟨_, rfl⟩
  rw [hW] at hn hk hy hc hbb ⊢; clear hW hn
  generalize v0.heap.size = q at *
  have HX0 := Lib.hid (XS.new hbb hc hk hy hlo)
  clear hk hy hc hbb hlo ha0 hb0 KC1 HB CM
  generalize makeK c = b0 at *
  go_upto_region 5 with (first | ((with_reducible apply wpList_build_zu); exact rfl; exact rfl) | ((with_reducible apply wpList_store_urnew (u := zu) (O := none) (n := 0)); exact rfl; exact rfl; exact rfl; exact rfl))
  obtain ⟨W2, hW⟩ : ∃ W2, W1.alloc (.cells (zu.cells none 0) 35) = W2 := ⟨_, rfl⟩
  rw [hW] at HX0 ⊢; clear hW
  generalize W1.heap.size = r at *
  have HC := Lib.hid HX0.out.cat
  go_upto_if 26 with (first | ((with_reducible apply wpList_load_cat (h := HC.out)); exact rfl; exact rfl; exact rfl) | (go_at_call 9; (with_reducible refine (CG.out _).mono ?_); rintro e v2 ⟨rfl, hv2⟩))
  have HX1 := Lib.hid (HX0.out.step hv2)
  clear HX0 HC CG hv2
  go_cut [7] from 22 to 28 (fun s7 wx => s7 = ptr q 0 ∧ XS w wx w.heap.size q r c b0 o0 (if okc c = true then ⟨c, []⟩ else zu) none 0)
  case first =>
    have HC := Lib.hid HX1.out.cat; have HQ := Lib.hid HX1.out.uk
    have HXC := Lib.hid (HX1.out.conf HNIL.out)
    cases hoc : okc c
    · clear HC HQ HXC
      go_wp2_with fail
      go_meet
      exact ⟨rfl, by rw [if_neg (by rw [hoc]; decide)]; exact HX1.out⟩
    · go_wp2_with (first | ((with_reducible apply wpList_load_cat (h := HC.out)); exact rfl; exact rfl; exact rfl) | ((with_reducible apply wpList_store_confu (c := c) (hq := HQ.out)); exact rfl; exact rfl; exact rfl; exact rfl))
      go_meet
      exact ⟨rfl, by rw [if_pos hoc]; exact HXC.out⟩
  case rest =>
  obtain ⟨rfl, hx⟩ := hcut
  have HX0 := Lib.hid hx
  clear HX1 hx HNIL
  generalize (if okc c = true then (⟨c, []⟩ : Ur) else zu) = u0 at *
  go_wp2_with fail
  go_loopg [9] N (fun gh s9 wx => ∃ (j : Nat) (b : Ky) (ob : Option Addr) (u : Ur) (O : Option Addr) (n : Nat), j ≤ N ∧ j ≤ 60 ∧ gh = N - j ∧ s9 = .int .i64 (j : Int) ∧ KI c b u j ∧ XS w wx w.heap.size q r c b ob u O n)
  case atStart => exact ⟨0, b0, o0, u0, none, 0, Nat.zero_le _, by omega, rfl, rfl, HI0.out, HX0.out⟩
  case round =>
    obtain ⟨j, b, ob, u, O, n, hj, hj60, hg, rfl, hki, hxs⟩ := hrel
    have HG := Lib.hid hg; have HKI := Lib.hid hki; have HXS := Lib.hid hxs; clear hg hki hxs HX0 HI0
    have b4 : (0 : Int) ≤ (j : Int) := by omega
    by_cases hlt : j < N ∧ j < 60
    · obtain ⟨hlN, hl60⟩ := hlt
      have b3 : (j : Int) < (N : Int) := by omega
      have b6 : (j : Int) < 60 := by omega
      have hjl : j < acts.length := by rw [HN.out]; exact hlN
      obtain ⟨x, hz⟩ : ∃ z, acts[j]? = some z := ⟨_, List.getElem?_eq_getElem hjl⟩
      have HXK := Lib.hid (HOK.out x (List.mem_of_getElem? hz))
      obtain ⟨bb, off, rfl, hbb, hr⟩ := (HA.out.keep HXS.out.bel).row hz
      have HR := Lib.hid hr
      have HJ := Lib.hid (show j < N ∧ j < 60 from ⟨hlN, hl60⟩)
      clear hr hbb hz hjl hlN hl60 hj hj60
      go_upto_region 11 with (first | ((with_reducible apply wpList_load_ac (h := HR.out)); exact rfl; exact rfl; exact rfl) | ((with_reducible apply wpList_store_acnew (c := x)); exact rfl; exact rfl; exact rfl; exact rfl))
      have hn := below_new wr (.cells x.cells 39)
      have hka : AcAt (wr.alloc (.cells x.cells 39)) wr.heap.size x := At.new wr 39 _
      obtain ⟨W3, hW⟩ : ∃ W3, wr.alloc (.cells x.cells 39) = W3 := ⟨_, rfl⟩
      rw [hW] at hn hka ⊢; clear hW
      have HX3 := Lib.hid (HXS.out.step hn)
      have HK3 := Lib.hid hka
      clear hn hka HXS HR b3 b6 HN HA HOK
      generalize wr.heap.size = gx at *
      have kx4 := HK3.out.k4
      by_cases hl40 : (40 : Int) < (x.body.size : Int)
      · go_wp2_with fail
        go_ret
        exact ⟨rfl, HX3.out.bel⟩
      have HSZ : Hid (x.body.size ≤ 40) := Lib.hid (by omega)
      go_upto_region 13 with fail
      clear hl40 kx4
      obtain ⟨hxn, hxw, hxk, hxl⟩ := HXK.out
      have CI := Lib.hid (fun W => isGood_any c x.key x.now hxk W)
      have CR := Lib.hid (fun W => rkgood_any c x.key x.now hxk hxn W)
      have CS := Lib.hid (fun W => stamp_any x.key hxk W)
      have CT := Lib.hid (fun W => rstamp_any x.key hxk W)
      generalize goodK c x.key x.now = gb at *
      generalize stp x.key = sp at *
      clear hxn hxw hxk hxl
      refine AnyOrder.region_kinds2 22 [.eq (c.V), .eq (ptr gx 3), .eq (.int .u64 x.key), .eq (ptr gx 1), .eq (.int .i64 x.now), .eq (.bool gb), .eq (c.V), .eq (ptr gx 3), .eq (.int .u64 x.key), .eq (ptr gx 1), .eq (.int .i64 x.now), .eq (.bool gb), .eq (.bool false), .eq (.bool false), .eq (ptr gx 3), .eq (.int .u64 x.key), .eq (.int .i64 sp), .eq (ptr gx 3), .eq (.int .u64 x.key), .eq (.int .i64 sp), .eq (.bool false), .eq (.bool false)] (fun wx => Below W3.heap.size W3 wx) (by kernel_rfl) (by kernel_rfl) rfl (by kernel_rfl) (below_drewN (Below.refl _ _) 1) (fun p _ _ hp => by simp at hp) ?_ ?_
      · intro i o listed a1 w2 hin ho st hl hdep
        match i, ho with
        | 0, ho => (injection ho with ho; subst ho; have ec : ∀ v, a1.eval (.const v) = v := fun _ => rfl; have ef : ∀ f, a1.eval (.func f) = .func (.func f) #[] #[] := fun _ => rfl; have e0 : a1.eval (.tmp 3) = ptr w.heap.size 0 := st.old hl 3 (by kernel_rfl); exact AnyOrder.step_value rfl (AnyOrder.wanted_none rfl) (c.V) (run_load_cfg e0 (CAt.step HX3.out.cat st.inv)) st.inv (Below.refl _ _) rfl)
        | 1, ho => (injection ho with ho; subst ho; have ec : ∀ v, a1.eval (.const v) = v := fun _ => rfl; have ef : ∀ f, a1.eval (.func f) = .func (.func f) #[] #[] := fun _ => rfl; have e0 : a1.eval (.tmp 10) = ptr gx 0 := st.old hl 10 (by kernel_rfl); exact AnyOrder.step_value rfl (AnyOrder.wanted_none rfl) (ptr gx 3) (by generalize a1.eval = ρ at ec ef e0 ⊢; simp [execOp, ec, ef, e0, IntWalk.i64_left, go_sem]) st.inv (Below.refl _ _) rfl)
        | 2, ho => (injection ho with ho; subst ho; have ec : ∀ v, a1.eval (.const v) = v := fun _ => rfl; have ef : ∀ f, a1.eval (.func f) = .func (.func f) #[] #[] := fun _ => rfl; have e0 : a1.eval (.tmp 48) = ptr gx 3 := st.done 1 48 (hdep ⟨1, .data⟩ (by simp) rfl) rfl; exact AnyOrder.step_value rfl (AnyOrder.wanted_none rfl) (.int .u64 x.key) (by have hk := AcAt.k3 (At.step HK3.out st.inv); generalize a1.eval = ρ at ec ef e0 ⊢; simp [execOp, e0, go_sem, hk]) st.inv (Below.refl _ _) rfl)
        | 3, ho => (injection ho with ho; subst ho; have ec : ∀ v, a1.eval (.const v) = v := fun _ => rfl; have ef : ∀ f, a1.eval (.func f) = .func (.func f) #[] #[] := fun _ => rfl; have e0 : a1.eval (.tmp 10) = ptr gx 0 := st.old hl 10 (by kernel_rfl); exact AnyOrder.step_value rfl (AnyOrder.wanted_none rfl) (ptr gx 1) (by generalize a1.eval = ρ at ec ef e0 ⊢; simp [execOp, ec, ef, e0, IntWalk.i64_left, go_sem]) st.inv (Below.refl _ _) rfl)
        | 4, ho => (injection ho with ho; subst ho; have ec : ∀ v, a1.eval (.const v) = v := fun _ => rfl; have ef : ∀ f, a1.eval (.func f) = .func (.func f) #[] #[] := fun _ => rfl; have e0 : a1.eval (.tmp 50) = ptr gx 1 := st.done 3 50 (hdep ⟨3, .data⟩ (by simp) rfl) rfl; exact AnyOrder.step_value rfl (AnyOrder.wanted_none rfl) (.int .i64 x.now) (by have hk := AcAt.k1 (At.step HK3.out st.inv); generalize a1.eval = ρ at ec ef e0 ⊢; simp [execOp, e0, go_sem, hk]) st.inv (Below.refl _ _) rfl)
        | 5, ho => (injection ho with ho; subst ho; have ec : ∀ v, a1.eval (.const v) = v := fun _ => rfl; have ef : ∀ f, a1.eval (.func f) = .func (.func f) #[] #[] := fun _ => rfl; have e0 : a1.eval (.tmp 47) = c.V := st.done 0 47 (hdep ⟨0, .data⟩ (by simp) rfl) rfl; have e1 : a1.eval (.tmp 49) = .int .u64 x.key := st.done 2 49 (hdep ⟨2, .data⟩ (by simp) rfl) rfl; have e2 : a1.eval (.tmp 51) = .int .i64 x.now := st.done 4 51 (hdep ⟨4, .data⟩ (by simp) rfl) rfl; exact AnyOrder.step_call rfl (AnyOrder.wanted_none rfl) 10 #[c.V, .int .u64 x.key, .int .i64 x.now] (by generalize a1.eval = ρ at ec ef e0 e1 e2 ⊢; simp [execOp, ec, ef, e0, e1, e2, go_sem]) ((CI.out w2).mono (fun e w3 h => by obtain ⟨rfl, hb⟩ := h; exact ⟨_, rfl, st.inv.trans (hb.mono st.inv.size), hb, rfl⟩)))
        | 6, ho => (injection ho with ho; subst ho; have ec : ∀ v, a1.eval (.const v) = v := fun _ => rfl; have ef : ∀ f, a1.eval (.func f) = .func (.func f) #[] #[] := fun _ => rfl; have e0 : a1.eval (.tmp 3) = ptr w.heap.size 0 := st.old hl 3 (by kernel_rfl); exact AnyOrder.step_value rfl (AnyOrder.wanted_none rfl) (c.V) (run_load_cfg e0 (CAt.step HX3.out.cat st.inv)) st.inv (Below.refl _ _) rfl)
        | 7, ho => (injection ho with ho; subst ho; have ec : ∀ v, a1.eval (.const v) = v := fun _ => rfl; have ef : ∀ f, a1.eval (.func f) = .func (.func f) #[] #[] := fun _ => rfl; have e0 : a1.eval (.tmp 10) = ptr gx 0 := st.old hl 10 (by kernel_rfl); exact AnyOrder.step_value rfl (AnyOrder.wanted_none rfl) (ptr gx 3) (by generalize a1.eval = ρ at ec ef e0 ⊢; simp [execOp, ec, ef, e0, IntWalk.i64_left, go_sem]) st.inv (Below.refl _ _) rfl)
        | 8, ho => (injection ho with ho; subst ho; have ec : ∀ v, a1.eval (.const v) = v := fun _ => rfl; have ef : ∀ f, a1.eval (.func f) = .func (.func f) #[] #[] := fun _ => rfl; have e0 : a1.eval (.tmp 54) = ptr gx 3 := st.done 7 54 (hdep ⟨7, .data⟩ (by simp) rfl) rfl; exact AnyOrder.step_value rfl (AnyOrder.wanted_none rfl) (.int .u64 x.key) (by have hk := AcAt.k3 (At.step HK3.out st.inv); generalize a1.eval = ρ at ec ef e0 ⊢; simp [execOp, e0, go_sem, hk]) st.inv (Below.refl _ _) rfl)
        | 9, ho => (injection ho with ho; subst ho; have ec : ∀ v, a1.eval (.const v) = v := fun _ => rfl; have ef : ∀ f, a1.eval (.func f) = .func (.func f) #[] #[] := fun _ => rfl; have e0 : a1.eval (.tmp 10) = ptr gx 0 := st.old hl 10 (by kernel_rfl); exact AnyOrder.step_value rfl (AnyOrder.wanted_none rfl) (ptr gx 1) (by generalize a1.eval = ρ at ec ef e0 ⊢; simp [execOp, ec, ef, e0, IntWalk.i64_left, go_sem]) st.inv (Below.refl _ _) rfl)
        | 10, ho => (injection ho with ho; subst ho; have ec : ∀ v, a1.eval (.const v) = v := fun _ => rfl; have ef : ∀ f, a1.eval (.func f) = .func (.func f) #[] #[] := fun _ => rfl; have e0 : a1.eval (.tmp 56) = ptr gx 1 := st.done 9 56 (hdep ⟨9, .data⟩ (by simp) rfl) rfl; exact AnyOrder.step_value rfl (AnyOrder.wanted_none rfl) (.int .i64 x.now) (by have hk := AcAt.k1 (At.step HK3.out st.inv); generalize a1.eval = ρ at ec ef e0 ⊢; simp [execOp, e0, go_sem, hk]) st.inv (Below.refl _ _) rfl)
        | 11, ho => (injection ho with ho; subst ho; have ec : ∀ v, a1.eval (.const v) = v := fun _ => rfl; have ef : ∀ f, a1.eval (.func f) = .func (.func f) #[] #[] := fun _ => rfl; have e0 : a1.eval (.tmp 53) = c.V := st.done 6 53 (hdep ⟨6, .data⟩ (by simp) rfl) rfl; have e1 : a1.eval (.tmp 55) = .int .u64 x.key := st.done 8 55 (hdep ⟨8, .data⟩ (by simp) rfl) rfl; have e2 : a1.eval (.tmp 57) = .int .i64 x.now := st.done 10 57 (hdep ⟨10, .data⟩ (by simp) rfl) rfl; exact AnyOrder.step_call rfl (AnyOrder.wanted_none rfl) 11 #[c.V, .int .u64 x.key, .int .i64 x.now] (by generalize a1.eval = ρ at ec ef e0 e1 e2 ⊢; simp [execOp, ec, ef, e0, e1, e2, go_sem]) ((CR.out w2).mono (fun e w3 h => by obtain ⟨rfl, hb⟩ := h; exact ⟨_, rfl, st.inv.trans (hb.mono st.inv.size), hb, rfl⟩)))
        | 12, ho => (injection ho with ho; subst ho; have ec : ∀ v, a1.eval (.const v) = v := fun _ => rfl; have ef : ∀ f, a1.eval (.func f) = .func (.func f) #[] #[] := fun _ => rfl; have e0 : a1.eval (.tmp 52) = .bool gb := st.done 5 52 (hdep ⟨5, .data⟩ (by simp) rfl) rfl; have e1 : a1.eval (.tmp 58) = .bool gb := st.done 11 58 (hdep ⟨11, .data⟩ (by simp) rfl) rfl; exact AnyOrder.step_value rfl (AnyOrder.wanted_none rfl) (.bool false) (by generalize a1.eval = ρ at ec ef e0 e1 ⊢; simp [execOp, ec, ef, e0, e1, IntWalk.i64_left, go_sem]) st.inv (Below.refl _ _) rfl)
        | 13, ho => (injection ho with ho; subst ho; have ec : ∀ v, a1.eval (.const v) = v := fun _ => rfl; have ef : ∀ f, a1.eval (.func f) = .func (.func f) #[] #[] := fun _ => rfl; have e0 : a1.eval (.tmp 59) = .bool false := st.done 12 59 (hdep ⟨12, .data⟩ (by simp) rfl) rfl; exact AnyOrder.step_value rfl (AnyOrder.wanted_none rfl) (.bool false) (AnyOrder.run_move e0) st.inv (Below.refl _ _) rfl)
        | 14, ho => (injection ho with ho; subst ho; have ec : ∀ v, a1.eval (.const v) = v := fun _ => rfl; have ef : ∀ f, a1.eval (.func f) = .func (.func f) #[] #[] := fun _ => rfl; have e0 : a1.eval (.tmp 10) = ptr gx 0 := st.old hl 10 (by kernel_rfl); have eg : a1.eval (.tmp 60) = .bool false := st.done 13 60 (hdep ⟨13, .guard⟩ (by simp) rfl) rfl; exact AnyOrder.step_value rfl ((AnyOrder.wanted_of rfl rfl eg).trans rfl) (ptr gx 3) (by generalize a1.eval = ρ at ec ef e0 ⊢; simp [execOp, ec, ef, e0, IntWalk.i64_left, go_sem]) st.inv (Below.refl _ _) rfl)
        | 15, ho => (injection ho with ho; subst ho; have ec : ∀ v, a1.eval (.const v) = v := fun _ => rfl; have ef : ∀ f, a1.eval (.func f) = .func (.func f) #[] #[] := fun _ => rfl; have e0 : a1.eval (.tmp 61) = ptr gx 3 := st.done 14 61 (hdep ⟨14, .data⟩ (by simp) rfl) rfl; have eg : a1.eval (.tmp 60) = .bool false := st.done 13 60 (hdep ⟨13, .guard⟩ (by simp) rfl) rfl; exact AnyOrder.step_value rfl ((AnyOrder.wanted_of rfl rfl eg).trans rfl) (.int .u64 x.key) (by have hk := AcAt.k3 (At.step HK3.out st.inv); generalize a1.eval = ρ at ec ef e0 ⊢; simp [execOp, e0, go_sem, hk]) st.inv (Below.refl _ _) rfl)
        | 16, ho => (injection ho with ho; subst ho; have ec : ∀ v, a1.eval (.const v) = v := fun _ => rfl; have ef : ∀ f, a1.eval (.func f) = .func (.func f) #[] #[] := fun _ => rfl; have e0 : a1.eval (.tmp 62) = .int .u64 x.key := st.done 15 62 (hdep ⟨15, .data⟩ (by simp) rfl) rfl; have eg : a1.eval (.tmp 60) = .bool false := st.done 13 60 (hdep ⟨13, .chain⟩ (by simp) rfl) rfl; exact AnyOrder.step_call rfl ((AnyOrder.wanted_of rfl rfl eg).trans rfl) 12 #[.int .u64 x.key] (by generalize a1.eval = ρ at ec ef e0 ⊢; simp [execOp, ec, ef, e0, go_sem]) ((((CS.out w2).mono (fun e w4 h => (show e = .returned (.int .i64 sp) ∧ Below w2.heap.size w2 w4 from ⟨h.1, h.2 ▸ Below.refl _ _⟩)))).mono (fun e w3 h => by obtain ⟨rfl, hb⟩ := h; exact ⟨_, rfl, st.inv.trans (hb.mono st.inv.size), hb, rfl⟩)))
        | 17, ho => (injection ho with ho; subst ho; have ec : ∀ v, a1.eval (.const v) = v := fun _ => rfl; have ef : ∀ f, a1.eval (.func f) = .func (.func f) #[] #[] := fun _ => rfl; have e0 : a1.eval (.tmp 10) = ptr gx 0 := st.old hl 10 (by kernel_rfl); have eg : a1.eval (.tmp 60) = .bool false := st.done 13 60 (hdep ⟨13, .guard⟩ (by simp) rfl) rfl; exact AnyOrder.step_value rfl ((AnyOrder.wanted_of rfl rfl eg).trans rfl) (ptr gx 3) (by generalize a1.eval = ρ at ec ef e0 ⊢; simp [execOp, ec, ef, e0, IntWalk.i64_left, go_sem]) st.inv (Below.refl _ _) rfl)
        | 18, ho => (injection ho with ho; subst ho; have ec : ∀ v, a1.eval (.const v) = v := fun _ => rfl; have ef : ∀ f, a1.eval (.func f) = .func (.func f) #[] #[] := fun _ => rfl; have e0 : a1.eval (.tmp 64) = ptr gx 3 := st.done 17 64 (hdep ⟨17, .data⟩ (by simp) rfl) rfl; have eg : a1.eval (.tmp 60) = .bool false := st.done 13 60 (hdep ⟨13, .guard⟩ (by simp) rfl) rfl; exact AnyOrder.step_value rfl ((AnyOrder.wanted_of rfl rfl eg).trans rfl) (.int .u64 x.key) (by have hk := AcAt.k3 (At.step HK3.out st.inv); generalize a1.eval = ρ at ec ef e0 ⊢; simp [execOp, e0, go_sem, hk]) st.inv (Below.refl _ _) rfl)
        | 19, ho => (injection ho with ho; subst ho; have ec : ∀ v, a1.eval (.const v) = v := fun _ => rfl; have ef : ∀ f, a1.eval (.func f) = .func (.func f) #[] #[] := fun _ => rfl; have e0 : a1.eval (.tmp 65) = .int .u64 x.key := st.done 18 65 (hdep ⟨18, .data⟩ (by simp) rfl) rfl; have eg : a1.eval (.tmp 60) = .bool false := st.done 13 60 (hdep ⟨13, .guard⟩ (by simp) rfl) rfl; exact AnyOrder.step_call rfl ((AnyOrder.wanted_of rfl rfl eg).trans rfl) 13 #[.int .u64 x.key] (by generalize a1.eval = ρ at ec ef e0 ⊢; simp [execOp, ec, ef, e0, go_sem]) ((((CT.out w2).mono (fun e w4 h => (show e = .returned (.int .i64 sp) ∧ Below w2.heap.size w2 w4 from ⟨h.1, h.2 ▸ Below.refl _ _⟩)))).mono (fun e w3 h => by obtain ⟨rfl, hb⟩ := h; exact ⟨_, rfl, st.inv.trans (hb.mono st.inv.size), hb, rfl⟩)))
        | 20, ho => (injection ho with ho; subst ho; have ec : ∀ v, a1.eval (.const v) = v := fun _ => rfl; have ef : ∀ f, a1.eval (.func f) = .func (.func f) #[] #[] := fun _ => rfl; have e0 : a1.eval (.tmp 63) = .int .i64 sp := st.done 16 63 (hdep ⟨16, .data⟩ (by simp) rfl) rfl; have e1 : a1.eval (.tmp 66) = .int .i64 sp := st.done 19 66 (hdep ⟨19, .data⟩ (by simp) rfl) rfl; have eg : a1.eval (.tmp 60) = .bool false := st.done 13 60 (hdep ⟨13, .guard⟩ (by simp) rfl) rfl; exact AnyOrder.step_value rfl ((AnyOrder.wanted_of rfl rfl eg).trans rfl) (.bool false) (by generalize a1.eval = ρ at ec ef e0 e1 ⊢; simp [execOp, ec, ef, e0, e1, IntWalk.i64_left, go_sem]) st.inv (Below.refl _ _) rfl)
        | 21, ho => (injection ho with ho; subst ho; have ec : ∀ v, a1.eval (.const v) = v := fun _ => rfl; have ef : ∀ f, a1.eval (.func f) = .func (.func f) #[] #[] := fun _ => rfl; have e0 : a1.eval (.tmp 60) = .bool false := st.done 13 60 (hdep ⟨13, .data⟩ (by simp) rfl) rfl; have e1 : a1.eval (.tmp 67) = .bool false := st.done 20 67 (hdep ⟨20, .data⟩ (by simp) rfl) rfl; exact AnyOrder.step_value rfl (AnyOrder.wanted_none rfl) (.bool false) (by generalize a1.eval = ρ at ec ef e0 e1 ⊢; simp [execOp, ec, ef, e0, e1, IntWalk.i64_left, go_sem]) st.inv (Below.refl _ _) rfl)
        | n + 22, ho => exact absurd hin (by omega)
      · intro W4 hJ
        simp only [AnyOrder.finK, List.take_succ_cons, List.take_zero, List.drop_succ_cons, List.drop_zero, Act.put, List.setIfInBounds_toArray, List.set_cons_zero, List.set_cons_succ]
        have HX4 := Lib.hid (HX3.out.step hJ); have HK4 : Hid (AcAt W4 gx x) := Lib.hid (At.step HK3.out hJ)
        clear HX3 HK3 CI CR CS CT hJ
        obtain ⟨hxn, hxw, hxk, hxl⟩ := HXK.out
        obtain ⟨s1, v1, hr1⟩ : ∃ s1 v1, lookK b x.now x.who x.key x.body = (s1, v1) := ⟨_, _, rfl⟩
        have hl60 : u.l.length ≤ 1000 := by have := HKI.out.len; have := HJ.out; omega
        have CL : Hid (Calls Try.prog 14 #[b.V ob, .int .i64 x.now, .int .i64 x.who, .int .u64 x.key, .string x.body] W4 (TAns W4 (s1, v1))) := Lib.hid (by
          have h := look_any (b := b) x.now x.who x.key x.body hxk HX4.out.at_; rwa [hr1] at h)
        have CV : Hid (∀ W, Sh.Own eN W w.heap.size (slv O u.l.length n) u.l → Calls Try.prog 15 #[u.V O n, .int .i64 x.now, .int .i64 x.who, .int .u64 x.key, .string x.body] W (TAns W (s1, v1))) := Lib.hid (fun W h => by
          have h := rlook_any x.now x.who x.key x.body hxk hxn h HKI.out.key HKI.out.win hl60; rwa [HKI.out.look x.body hxk, hr1] at h)
        clear hxn hxw hxk hxl hr1 hl60
        have kx1 := HK4.out.k1; have kx2 := HK4.out.k2; have kx3 := HK4.out.k3; have kx4 := HK4.out.k4
        have HBK := Lib.hid HX4.out.bk
        go_upto_region 16 with (first | ((with_reducible apply wpList_load_ky (h := HBK.out)); exact rfl; exact rfl; exact rfl) | (go_at_call 14; (with_reducible refine CL.out.mono ?_); rintro e W5 ⟨rfl, hv1⟩))
        have HX5 := Lib.hid (HX4.out.step hv1); have HK5 : Hid (AcAt W5 gx x) := Lib.hid (At.step HK4.out hv1)
        clear HX4 HK4 HBK CL hv1 kx1 kx2 kx3 kx4
        have kx1 := HK5.out.k1; have kx2 := HK5.out.k2; have kx3 := HK5.out.k3; have kx4 := HK5.out.k4
        have HUK := Lib.hid HX5.out.uk
        have CV1 := Lib.hid (CV.out _ HX5.out.own)
        go_upto_region 17 with (first | ((with_reducible apply wpList_load_ur (h := HUK.out)); exact rfl; exact rfl; exact rfl) | (go_at_call 15; (with_reducible refine CV1.out.mono ?_); rintro e W6 ⟨rfl, hv1⟩))
        have HX6 := Lib.hid (HX5.out.step hv1); have HK6 : Hid (AcAt W6 gx x) := Lib.hid (At.step HK5.out hv1)
        clear HX5 HK5 HUK CV CV1 hv1 kx1 kx2 kx3 kx4
        have t1 : (s1.toList == s1.toList) = true := by simp
        have t2 : (v1 != v1) = false := by simp
        go_upto_region 19 with fail
        clear t1 t2
        go_cut [110] from 29 to 174 (fun s110 wx => (∃ t : Bool, s110 = .bool t) ∧ W6 = wx)
        case first =>
          have kx0 := HK6.out.k0
          clear HX6 HK6 HKI HG HXK HSZ
          by_cases h1 : x.kind = 1
          · have d1 : decide (x.kind = 1) = true := by simpa using h1
            have q1 : (x.kind == 1) = true := by simpa using h1
            clear h1
            go_wp2_with fail
            go_meet
            exact ⟨⟨_, rfl⟩, rfl⟩
          · have d1 : decide (x.kind = 1) = false := by simpa using h1
            have q1 : (x.kind == 1) = false := by simpa using h1
            clear h1
            obtain ⟨t, d2, q2⟩ : ∃ t : Bool, decide (x.kind = 2) = t ∧ (x.kind == 2) = t := ⟨_, rfl, rfl⟩
            go_wp2_with fail
            go_meet
            exact ⟨⟨_, rfl⟩, rfl⟩
        case rest =>
        obtain ⟨⟨t, rfl⟩, rfl⟩ := hcut
        go_upto_if 110 with fail
        go_cut [9] from 29 to 174 (fun s9 wx => s9 = .int .i64 (j : Int) ∧ ∃ (b' : Ky) (ob' : Option Addr) (u' : Ur) (O' : Option Addr) (n' : Nat), KI c b' u' (j + 1) ∧ XS w wx w.heap.size q r c b' ob' u' O' n')
        case first =>
          cases t
          · have HKI2 := Lib.hid (HKI.out.mono (Nat.le_succ j))
            clear HKI HK6 HXK HSZ
            go_wp2_with fail
            go_meet
            exact ⟨rfl, b, ob, u, O, n, HKI2.out, HX6.out⟩
          · obtain ⟨hxn, hxw, hxk, hxl⟩ := HXK.out
            obtain ⟨m, d, ee, hw1, hw2, hor⟩ := HKI.out.both (now := x.now) (who := x.who) x.body (x.body ++ bang) hxk
            have hl60 : u.l.length ≤ 1000 := by have := HKI.out.len; have := HJ.out; omega
            have CW : Hid (Calls Try.prog 16 #[b.V ob, .int .i64 x.now, .int .i64 x.who, .int .u64 x.key, .string x.body, .string (x.body ++ bang)] W6 (YAns2 W6 (m, ee))) := Lib.hid (by
              have h := keysWith_any x.now x.who x.key x.body (x.body ++ bang) hxk HX6.out.at_ HKI.out.wf.fit; rwa [hw1] at h)
            have CV : Hid (∀ W, Sh.Own eN W w.heap.size (slv O u.l.length n) u.l → Calls Try.prog 17 #[u.V O n, .int .i64 x.now, .int .i64 x.who, .int .u64 x.key, .string x.body, .string (x.body ++ bang)] W (UAns W (d, ee))) := Lib.hid (fun W h => by
              have h := rwith_any x.now x.who x.key x.body (x.body ++ bang) hxk hxn h HKI.out.key HKI.out.win hl60; rwa [hw2] at h)
            have HOR := Lib.hid hor
            clear hxn hxw hxk hxl hw1 hw2 hl60 hor
            have kx1 := HK6.out.k1; have kx2 := HK6.out.k2; have kx3 := HK6.out.k3; have kx4 := HK6.out.k4
            have HBK := Lib.hid HX6.out.bk
            go_upto_region 21 with (first | ((with_reducible apply wpList_load_ky (h := HBK.out)); exact rfl; exact rfl; exact rfl) | ((with_reducible apply wpList_bang2 (hs := HSZ.out)); exact rfl; exact rfl; exact rfl) | (go_at_call 16; (with_reducible refine CW.out.mono ?_); rintro e V2 ⟨om, rfl, ha2, hv2⟩) | ((with_reducible apply wpList_store_kynew (b := m) (s := om)); exact rfl; exact rfl; exact rfl; exact rfl))
            have ha2 : YAt V2 m om := ha2
            have hn := below_new V2 (.cells (m.cells om) 31)
            have HX7 := Lib.hid ((HX6.out.step hv2).step hn)
            have HK7 : Hid (AcAt (V2.alloc (.cells (m.cells om) 31)) gx x) := Lib.hid (At.step (At.step HK6.out hv2) hn)
            have HKM := Lib.hid (KyAt.new V2 m om)
            have HYM := Lib.hid (YAt.step ha2 hn)
            obtain ⟨V3, hV⟩ : ∃ V3, V2.alloc (.cells (m.cells om) 31) = V3 := ⟨_, rfl⟩
            rw [hV] at HX7 HK7 HKM HYM ⊢; clear hV hn ha2 hv2 HX6 HK6 HBK CW kx1 kx2 kx3 kx4
            generalize V2.heap.size = qm at *
            have kx1 := HK7.out.k1; have kx2 := HK7.out.k2; have kx3 := HK7.out.k3; have kx4 := HK7.out.k4
            have HUK := Lib.hid HX7.out.uk
            have CV1 := Lib.hid (CV.out _ HX7.out.own)
            go_upto_region 22 with (first | ((with_reducible apply wpList_load_ur (h := HUK.out)); exact rfl; exact rfl; exact rfl) | ((with_reducible apply wpList_bang2 (hs := HSZ.out)); exact rfl; exact rfl; exact rfl) | (go_at_call 17; (with_reducible refine CV1.out.mono ?_); rintro e V4 ⟨Od, nd, rfl, ho4, hv4⟩) | ((with_reducible apply wpList_store_urnew (u := d) (O := Od) (n := nd)); exact rfl; exact rfl; exact rfl; exact rfl))
            have ho4 : Sh.Own eN V4 V3.heap.size (slv Od d.l.length nd) d.l := ho4
            have hn := below_new V4 (.cells (d.cells Od nd) 35)
            have HX8 := Lib.hid ((HX7.out.step hv4).step hn)
            have HKM8 : Hid (KyAt (V4.alloc (.cells (d.cells Od nd) 35)) qm m om) := Lib.hid (At.step (At.step HKM.out hv4) hn)
            have HYM8 := Lib.hid (YAt.step (YAt.step HYM.out hv4) hn)
            have HUD := Lib.hid (UrAt.new V4 d Od nd)
            have HOD := Lib.hid ((ho4.mono HX7.out.bel.size).below hn)
            obtain ⟨V5, hV⟩ : ∃ V5, V4.alloc (.cells (d.cells Od nd) 35) = V5 := ⟨_, rfl⟩
            rw [hV] at HX8 HKM8 HYM8 HUD HOD ⊢; clear hV hn ho4 hv4 HX7 HK7 HKM HYM HUK CV CV1 kx1 kx2 kx3 kx4 HSZ HXK
            generalize V4.heap.size = rd at *
            rcases HOR.out with ⟨rfl, hki2⟩ | ⟨rfl, rfl, rfl⟩
            · have HKI2 := Lib.hid hki2
              clear HOR hki2 HKI
              have HQ := Lib.hid HX8.out.bk
              have HX9 := Lib.hid (HX8.out.putK HYM8.out)
              have HUQ := Lib.hid HX9.out.uk
              have hne : rd ≠ q := At.ne HUD.out HX8.out.bk (by decide)
              have HUD9 : Hid (UrAt (V5.setRow q (m.cells om)) rd d Od nd) := Lib.hid (At.farRow HUD.out hne)
              have HOD9 : Hid (Sh.Own eN (V5.setRow q (m.cells om)) w.heap.size (slv Od d.l.length nd) d.l) := Lib.hid (HOD.out.chg (chg_setRow _ _ _) (fun k hk e => by subst e; exact own_ne HOD.out HX8.out.bk (by decide) hk))
              have HX10 := Lib.hid (HX9.out.putU HOD9.out)
              clear hne HOD HOD9 HYM8 HX9 HX8 HUD
              go_wp2_with (first | ((with_reducible apply wpList_load_ky (h := HKM8.out)); exact rfl; exact rfl; exact rfl) | ((with_reducible apply wpList_store_ky (b := m) (s := om) (hq := HQ.out)); exact rfl; exact rfl; exact rfl; exact rfl) | ((with_reducible apply wpList_load_ur (h := HUD9.out)); exact rfl; exact rfl; exact rfl) | ((with_reducible apply wpList_store_ur (u := d) (O := Od) (n := nd) (hq := HUQ.out)); exact rfl; exact rfl; exact rfl; exact rfl))
              go_meet
              exact ⟨rfl, m, om, d, Od, nd, HKI2.out, HX10.out⟩
            · obtain rfl := HYM8.out.nil rfl
              have CE := Lib.hid (fun W => keysEqual_zero W)
              have HKI2 := Lib.hid (HKI.out.mono (Nat.le_succ j))
              clear HOR HKI HUD HOD HYM8
              go_wp2_with (first | ((with_reducible apply wpList_load_ky (h := HKM8.out)); exact rfl; exact rfl; exact rfl) | ((with_reducible apply wpList_build_zyG); exact rfl; exact rfl) | (go_at_call 18; (with_reducible refine (CE.out _).mono ?_); rintro e V6 ⟨rfl, hv6⟩))
              have HX9 := Lib.hid (HX8.out.step hv6)
              go_meet
              exact ⟨rfl, b, ob, u, O, n, HKI2.out, HX9.out⟩
        case rest =>
        obtain ⟨rfl, b2, ob2, u2, O2, n2, hki2, hxs2⟩ := hcut
        have HKI2 := Lib.hid hki2; have HX7 := Lib.hid hxs2
        clear hki2 hxs2 HX6 HKI HK6 HXK HSZ
        obtain ⟨W7, hW7⟩ : ∃ W7, wc = W7 := ⟨_, rfl⟩
        rw [hW7] at HX7 ⊢
        go_upto_region 28 with fail
        go_cut [166] from 29 to 174 (fun s166 wx => (∃ t : Bool, s166 = .bool t) ∧ W7 = wx)
        case first =>
          clear HX7 HKI2 HG
          by_cases h1 : tk < -1099511627776
          · go_wp2_with fail
            go_meet
            exact ⟨⟨_, rfl⟩, rfl⟩
          · go_wp2_with fail
            go_meet
            exact ⟨⟨_, rfl⟩, rfl⟩
        case rest =>
        obtain ⟨⟨tt, rfl⟩, rfl⟩ := hcut
        go_upto_if 166 with fail
        go_cut [19] from 29 to 174 (fun s19 wx => (∃ nw : Int, s19 = .int .i64 nw) ∧ W7 = wx)
        case first =>
          clear HX7 HKI2 HG
          cases tt
          · go_wp2_with fail
            go_meet
            exact ⟨⟨_, rfl⟩, rfl⟩
          · go_wp2_with fail
            go_meet
            exact ⟨⟨_, rfl⟩, rfl⟩
        case rest =>
        obtain ⟨⟨nw, rfl⟩, rfl⟩ := hcut
        go_upto_region 30 with fail
        have hl60 : u2.l.length ≤ 1000 := by have := HKI2.out.len; have := HJ.out; omega
        have hcn := HKI2.out.rel.count nw
        obtain ⟨P, hP⟩ : ∃ P, (rcnt u2.c nw u2.l).length = P := ⟨_, rfl⟩
        rw [hP] at hcn
        have CT : Hid (∀ W, YAt W b2 ob2 → Calls Try.prog 19 #[b2.V ob2, .int .i64 nw] W fun e w' => e = .returned (.int .i64 (P : Int)) ∧ Below W.heap.size W w') := Lib.hid (fun W h => by
          have h2 := count_any (b := b2) nw h; rwa [hcn] at h2)
        have CC : Hid (∀ W, Sh.Own eN W w.heap.size (slv O2 u2.l.length n2) u2.l → Calls Try.prog 20 #[u2.V O2 n2, .int .i64 nw] W fun e w' => ∃ v, e = .returned v ∧ NLen P v w' ∧ Below W.heap.size W w') := Lib.hid (fun W h => (rcounts_any nw h HKI2.out.key HKI2.out.win hl60).mono (fun e w' h2 => h2.len hP))
        clear hl60 hcn hP
        refine AnyOrder.region_kinds2 8 [.eq (b2.V ob2), .eq (.int .i64 nw), .eq (.int .i64 (P : Int)), .eq (u2.V O2 n2), .eq (.int .i64 nw), .of (NLen P), .eq (.int .i64 (P : Int)), .eq (.bool false)] (fun wx => Below W7.heap.size W7 wx) (by kernel_rfl) (by kernel_rfl) rfl (by kernel_rfl) (below_drewN (Below.refl _ _) 1) (by intro p wa wb hp hj hb v hv; simp at hp; subst hp; exact NLen.keep hv) ?_ ?_
        · intro i o listed a1 w2 hin ho st hl hdep
          match i, ho with
          | 0, ho => (injection ho with ho; subst ho; have ec : ∀ v, a1.eval (.const v) = v := fun _ => rfl; have ef : ∀ f, a1.eval (.func f) = .func (.func f) #[] #[] := fun _ => rfl; have e0 : a1.eval (.tmp 7) = ptr q 0 := st.old hl 7 (by kernel_rfl); exact AnyOrder.step_value rfl (AnyOrder.wanted_none rfl) (b2.V ob2) (run_load_ky e0 (At.step HX7.out.bk st.inv)) st.inv (Below.refl _ _) rfl)
          | 1, ho => (injection ho with ho; subst ho; have ec : ∀ v, a1.eval (.const v) = v := fun _ => rfl; have ef : ∀ f, a1.eval (.func f) = .func (.func f) #[] #[] := fun _ => rfl; have e0 : a1.eval (.tmp 19) = .int .i64 nw := st.old hl 19 (by kernel_rfl); exact AnyOrder.step_value rfl (AnyOrder.wanted_none rfl) (.int .i64 nw) (AnyOrder.run_move e0) st.inv (Below.refl _ _) rfl)
          | 2, ho => (injection ho with ho; subst ho; have ec : ∀ v, a1.eval (.const v) = v := fun _ => rfl; have ef : ∀ f, a1.eval (.func f) = .func (.func f) #[] #[] := fun _ => rfl; have e0 : a1.eval (.tmp 167) = b2.V ob2 := st.done 0 167 (hdep ⟨0, .data⟩ (by simp) rfl) rfl; have e1 : a1.eval (.tmp 168) = .int .i64 nw := st.done 1 168 (hdep ⟨1, .data⟩ (by simp) rfl) rfl; exact AnyOrder.step_call rfl (AnyOrder.wanted_none rfl) 19 #[b2.V ob2, .int .i64 nw] (by generalize a1.eval = ρ at ec ef e0 e1 ⊢; simp [execOp, ec, ef, e0, e1, go_sem]) ((CT.out _ (HX7.out.at_.step st.inv)).mono (fun e w3 h => by obtain ⟨rfl, hb⟩ := h; exact ⟨_, rfl, st.inv.trans (hb.mono st.inv.size), hb, rfl⟩)))
          | 3, ho => (injection ho with ho; subst ho; have ec : ∀ v, a1.eval (.const v) = v := fun _ => rfl; have ef : ∀ f, a1.eval (.func f) = .func (.func f) #[] #[] := fun _ => rfl; have e0 : a1.eval (.tmp 8) = ptr r 0 := st.old hl 8 (by kernel_rfl); exact AnyOrder.step_value rfl (AnyOrder.wanted_none rfl) (u2.V O2 n2) (run_load_ur e0 (At.step HX7.out.uk st.inv)) st.inv (Below.refl _ _) rfl)
          | 4, ho => (injection ho with ho; subst ho; have ec : ∀ v, a1.eval (.const v) = v := fun _ => rfl; have ef : ∀ f, a1.eval (.func f) = .func (.func f) #[] #[] := fun _ => rfl; have e0 : a1.eval (.tmp 19) = .int .i64 nw := st.old hl 19 (by kernel_rfl); exact AnyOrder.step_value rfl (AnyOrder.wanted_none rfl) (.int .i64 nw) (AnyOrder.run_move e0) st.inv (Below.refl _ _) rfl)
          | 5, ho => (injection ho with ho; subst ho; have ec : ∀ v, a1.eval (.const v) = v := fun _ => rfl; have ef : ∀ f, a1.eval (.func f) = .func (.func f) #[] #[] := fun _ => rfl; have e0 : a1.eval (.tmp 170) = u2.V O2 n2 := st.done 3 170 (hdep ⟨3, .data⟩ (by simp) rfl) rfl; have e1 : a1.eval (.tmp 171) = .int .i64 nw := st.done 4 171 (hdep ⟨4, .data⟩ (by simp) rfl) rfl; exact AnyOrder.step_call rfl (AnyOrder.wanted_none rfl) 20 #[u2.V O2 n2, .int .i64 nw] (by generalize a1.eval = ρ at ec ef e0 e1 ⊢; simp [execOp, ec, ef, e0, e1, go_sem]) ((CC.out w2 (HX7.out.own.below st.inv)).mono (fun e w4 h => by obtain ⟨vk, rfl, ho, hb⟩ := h; exact ⟨_, rfl, st.inv.trans (hb.mono st.inv.size), hb, ho⟩)))
          | 6, ho => (injection ho with ho; subst ho; have ec : ∀ v, a1.eval (.const v) = v := fun _ => rfl; have ef : ∀ f, a1.eval (.func f) = .func (.func f) #[] #[] := fun _ => rfl; have e0 := st.done 5 172 (hdep ⟨5, .data⟩ (by simp) rfl) rfl; obtain ⟨O9, n9, e18⟩ := e0; exact AnyOrder.step_value rfl (AnyOrder.wanted_none rfl) (.int .i64 (P : Int)) (by generalize a1.eval = ρ at ec ef e18 ⊢; simp [execOp, e18, go_sem]) st.inv (Below.refl _ _) rfl)
          | 7, ho => (injection ho with ho; subst ho; have ec : ∀ v, a1.eval (.const v) = v := fun _ => rfl; have ef : ∀ f, a1.eval (.func f) = .func (.func f) #[] #[] := fun _ => rfl; have e0 : a1.eval (.tmp 169) = .int .i64 (P : Int) := st.done 2 169 (hdep ⟨2, .data⟩ (by simp) rfl) rfl; have e1 : a1.eval (.tmp 173) = .int .i64 (P : Int) := st.done 6 173 (hdep ⟨6, .data⟩ (by simp) rfl) rfl; exact AnyOrder.step_value rfl (AnyOrder.wanted_none rfl) (.bool false) (by generalize a1.eval = ρ at ec ef e0 e1 ⊢; simp [execOp, ec, ef, e0, e1, IntWalk.i64_left, go_sem]) st.inv (Below.refl _ _) rfl)
          | n + 8, ho => exact absurd hin (by omega)
        · intro W8 hJ
          simp only [AnyOrder.finK, List.take_succ_cons, List.take_zero, List.drop_succ_cons, List.drop_zero, Act.put, List.setIfInBounds_toArray, List.set_cons_zero, List.set_cons_succ]
          intro v5 h5
          have HX8 := Lib.hid (HX7.out.step hJ)
          clear HX7 hJ CT CC h5
          go_wp2_with fail
          go_roundg (N - (j + 1))
          case measure => have := HG.out; have := HJ.out; omega
          case rel => exact ⟨j + 1, b2, ob2, u2, O2, n2, by have := HJ.out; omega, by have := HJ.out; omega, rfl, (by have := HJ.out; rw [IntWalk.wrap64_in _ (by omega)]; rfl), HKI2.out, HX8.out⟩
    · have hx : (j < N ∧ ¬ j < 60) ∨ ¬ j < N := by omega
      have HB := Lib.hid HXS.out.bel
      clear HG HA HOK HKI HXS hlt HN
      rcases hx with ⟨h1, h2⟩ | h1
      · have b3 : (j : Int) < (N : Int) := by omega
        have b6 : ¬ (j : Int) < 60 := by omega
        clear h1 h2 hj hj60
        go_wp2_with fail
        go_ret
        exact ⟨rfl, HB.out⟩
      · have b3 : ¬ (j : Int) < (N : Int) := by omega
        clear h1 hj hj60
        go_wp2_with fail
        go_ret
        exact ⟨rfl, HB.out⟩
end Go.Proofs.Ytedogbkkophghaa
