/- Keys: Look. -/
import Derived.Test.YtedogbkkophghaaKyE
namespace Go.Proofs.Ytedogbkkophghaa
open Go.RowKit Go.Lib
open Sh.Plain (KV get put Rise)
set_option linter.unusedVariables false
set_option linter.unusedSimpArgs false

section
variable {ρ : Operand → Value} {w : World} {x y : Tmp} {d : Option Tmp} {t : TypeId} {pos : String} {af : Array Edge} {gd : Option (Nat × Bool)}
theorem run_alloc_e : (execOp ρ { dst := d, op := Op.alloc 65, type := t, pos := pos, after := af, guard := gd }).run Try.prog w = .ok (.value (ptr w.heap.size 0)) (w.alloc (.cells ze.cells 65)) := by
  simp [execOp, go_sem]
  rfl
theorem run_store_e {q : Nat} {b z : E} (e1 : ρ (.tmp x) = ptr q 0) (e2 : ρ (.tmp y) = b.V) (hq : EAt w q z) : (execOp ρ { dst := d, op := Op.store 65 (.tmp x) (.tmp y), type := t, pos := pos, after := af, guard := gd }).run Try.prog w = .ok .skip (w.setRow q b.cells) := by
  unfold execOp
  simp only [e1, e2, Instr.storeAt, Instr.sureAddr, Sem.run_bind, Sem.run_pure, Result.andThen_ok, run_storeVar_row w q 65 65 z.cells b.cells hq (sizeE b) (by rw [z.size, b.size]) b.one]
theorem run_load_ky {g : Nat} {b : Ky} {o : Option Addr} (e : ρ (.tmp x) = ptr g 0) (h : KyAt w g b o) : (execOp ρ { dst := d, op := Op.load 31 (.tmp x), type := t, pos := pos, after := af, guard := gd }).run Try.prog w = .ok (.value (b.V o)) w := by
  unfold execOp
  simp only [e, Instr.loadAt, Instr.sureAddr, Sem.run_bind, Sem.run_pure, Result.andThen_ok, run_loadVar_row w g 31 31 (b.cells o) (0, 0) _ h Try.underlying31 rfl (sizeY b o)]
end
/-- what Look answers: a text and a verdict -/
def lookK (b : Ky) (now who k : Int) (body : ByteArray) : ByteArray × Int :=
  if canK b.c now who k = true then
    match get (pl who k) b.l with
    | some x => if x.body = body then (x.ans, 2) else (zt, 3)
    | none => if ((cnt now b.l).length : Int) = b.c.get 5 then (zt, 5) else (zt, 1)
  else (zt, 4)
/-- what a call answers that tells a text and a number, and makes nothing -/
def TAns (w : World) (r : ByteArray × Int) (e : Ending) (w' : World) : Prop := e = .returned (.tuple #[.string r.1, .int .i64 r.2]) ∧ Below w.heap.size w w'
theorem canK_in {c : Cfg} {now who k : Int} (h : canK c now who k = true) : isW who ∧ okc c = true ∧ stp k ≤ now ∧ now ≤ lastK c k ∧ now ≤ 1073741824 := by
  unfold canK goodK at h
  simp at h
  exact ⟨h.1.1, h.2.1.1, h.2.1.2, h.2.2, h.1.2⟩
set_option maxRecDepth 100000 in
set_option maxHeartbeats 1600000 in
theorem look_late {b : Ky} {o : Option Addr} {w : World} (now who k : Int) (body : ByteArray) (hk : isU k) (hb : YAt w b o) (hc : canK b.c now who k = false) :
    Calls Try.prog 14 #[b.V o, .int .i64 now, .int .i64 who, .int .u64 k, .string body] w (TAns w (lookK b now who k body)) := by
  rw [show lookK b now who k body = (zt, 4) from if_neg (by rw [hc]; decide)]
  have H := Lib.hid (new1 w (b.cells o) 31)
  have HS0 := Lib.hid (hb.step H.out.1); clear hb
  have CC0 := fun W => can_any (b := b) (o := o) (w := W) now who k hk
  rw [hc] at CC0
  have CC := Lib.hid CC0; clear CC0
  clear hk hc
  go_enter Try.func14, Try.ntmps14
  go_upto_region 1 with fail
  obtain ⟨W, hW⟩ : ∃ W, w.alloc (.cells (b.cells o) 31) = W := ⟨_, rfl⟩
  rw [hW] at H HS0 ⊢; clear hW
  have HK0 := Lib.hid H.out.2; have HB0 := Lib.hid H.out.1; clear H
  go_wp2_with ((with_reducible apply wpList_load_ky (h := HK0.out)); exact rfl; exact rfl; exact rfl)
  refine (CC.out _).mono ?_
  rintro e w1 ⟨rfl, hb1⟩
  have HK : Hid (KyAt w1 w.heap.size b o) := Lib.hid (HK0.out.step hb1)
  have HS := Lib.hid (HS0.out.step hb1)
  have HB := Lib.hid (HB0.out.trans (hb1.mono HB0.out.size))
  clear HK0 HS0 HB0 CC hb1
  go_wp2_with fail
  go_ret2
  exact ⟨rfl, HB.out⟩
set_option maxRecDepth 100000 in
set_option maxHeartbeats 1600000 in
theorem look_some {b : Ky} {o : Option Addr} {w : World} (now who k : Int) (body : ByteArray) (hk : isU k) (hb : YAt w b o) (hc : canK b.c now who k = true) {x : E} (hg : get (pl who k) b.l = some x) :
    Calls Try.prog 14 #[b.V o, .int .i64 now, .int .i64 who, .int .u64 k, .string body] w (TAns w (lookK b now who k body)) := by
  obtain ⟨r, hr⟩ : ∃ r, lookK b now who k body = r := ⟨_, rfl⟩
  rw [hr]
  have HR := Lib.hid (show r = if x.body = body then (x.ans, 2) else (zt, 3) from by rw [← hr]; unfold lookK; rw [if_pos hc, hg])
  clear hr
  have H := Lib.hid (new1 w (b.cells o) 31)
  have HS0 := Lib.hid (hb.step H.out.1); clear hb
  have CC0 := fun W => can_any (b := b) (o := o) (w := W) now who k hk
  rw [hc] at CC0
  have CC := Lib.hid CC0; clear CC0
  obtain ⟨hw, hok, _⟩ := canK_in hc
  have HW := Lib.hid hw; have HU := Lib.hid hk
  have CP := Lib.hid (fun W => keyPlace_any hw hk W)
  have CG := fun W (h : YAt W b o) => Sh.get_any (pl who k) h
  clear hw hk hc hok
  rw [hg] at CG
  have CG : Hid (∀ W, YAt W b o → Calls Try.prog 28 #[sv o b.l.length b.rm, .string (pl who k)] W fun e w' => e = .returned (.tuple #[x.V, .bool true]) ∧ Below W.heap.size W w') := Lib.hid CG
  clear hg
  go_enter Try.func14, Try.ntmps14
  go_upto_region 1 with fail
  obtain ⟨W, hW⟩ : ∃ W, w.alloc (.cells (b.cells o) 31) = W := ⟨_, rfl⟩
  rw [hW] at H HS0 ⊢; clear hW
  have HK0 := Lib.hid H.out.2; have HB0 := Lib.hid H.out.1; clear H
  go_wp2_with ((with_reducible apply wpList_load_ky (h := HK0.out)); exact rfl; exact rfl; exact rfl)
  refine (CC.out _).mono ?_
  rintro e w1 ⟨rfl, hb1⟩
  have HK : Hid (KyAt w1 w.heap.size b o) := Lib.hid (HK0.out.step hb1)
  have HS := Lib.hid (HS0.out.step hb1)
  have HB := Lib.hid (HB0.out.trans (hb1.mono HB0.out.size))
  clear HK0 HS0 HB0 CC hb1
  go_upto_region 3 with fail
  refine AnyOrder.region_store2 10 [.eq (ptr w.heap.size 18), .eq (sv o b.l.length b.rm), .eq (.int .i64 who), .eq (.int .u64 k), .eq (.string (pl who k)), .eq (.tuple #[x.V, .bool true]), .eq (.tuple #[x.V, .bool true]), .eq (x.V), .eq (.bool true), .of (AnyOrder.Fresh w1 65 ze.cells)] (fun wx => Below w1.heap.size w1 wx) 8 28 12 27 65 (.bool true) _ _ (by kernel_rfl) (by kernel_rfl) rfl (by kernel_rfl) rfl rfl (by decide) rfl rfl rfl rfl rfl (by decide) rfl (fun a w w1 hJ hd hr hs => by have e : a.eval (.tmp 20) = .tuple #[x.V, .bool true] := hd 6 20 (by decide) (by decide) rfl; generalize a.eval = ρ at e ⊢; simp [execOp, e, go_sem]) (below_drewN (Below.refl _ _) 1) (fun p w w2 hp _ hb v hv => by simp at hp; subst hp; exact AnyOrder.Fresh.keep hv hb) ?_ ?_
  · intro i o listed a1 w2 hin ho st hl hdep
    match i, ho with
    | 0, ho => (injection ho with ho; subst ho; have ec : ∀ v, a1.eval (.const v) = v := fun _ => rfl; have ef : ∀ f, a1.eval (.func f) = .func (.func f) #[] #[] := fun _ => rfl; have e0 : a1.eval (.tmp 5) = ptr w.heap.size 0 := st.old hl 5 (by kernel_rfl); exact AnyOrder.step_value rfl (AnyOrder.wanted_none rfl) (ptr w.heap.size 18) (by generalize a1.eval = ρ at ec ef e0 ⊢; simp [execOp, ec, ef, e0, IntWalk.i64_left, go_sem]) st.inv (Below.refl _ _) rfl)
    | 1, ho => (injection ho with ho; subst ho; have ec : ∀ v, a1.eval (.const v) = v := fun _ => rfl; have ef : ∀ f, a1.eval (.func f) = .func (.func f) #[] #[] := fun _ => rfl; have e0 : a1.eval (.tmp 21) = ptr w.heap.size 18 := st.done 0 21 (hdep ⟨0, .data⟩ (by simp) rfl) rfl; exact AnyOrder.step_value rfl (AnyOrder.wanted_none rfl) (sv o b.l.length b.rm) (run_load_sv e0 (KyAt.lv (At.step HK.out st.inv))) st.inv (Below.refl _ _) rfl)
    | 2, ho => (injection ho with ho; subst ho; have ec : ∀ v, a1.eval (.const v) = v := fun _ => rfl; have ef : ∀ f, a1.eval (.func f) = .func (.func f) #[] #[] := fun _ => rfl; have e0 : a1.eval (.tmp 2) = .int .i64 who := st.old hl 2 (by kernel_rfl); exact AnyOrder.step_value rfl (AnyOrder.wanted_none rfl) (.int .i64 who) (AnyOrder.run_move e0) st.inv (Below.refl _ _) rfl)
    | 3, ho => (injection ho with ho; subst ho; have ec : ∀ v, a1.eval (.const v) = v := fun _ => rfl; have ef : ∀ f, a1.eval (.func f) = .func (.func f) #[] #[] := fun _ => rfl; have e0 : a1.eval (.tmp 3) = .int .u64 k := st.old hl 3 (by kernel_rfl); exact AnyOrder.step_value rfl (AnyOrder.wanted_none rfl) (.int .u64 k) (AnyOrder.run_move e0) st.inv (Below.refl _ _) rfl)
    | 4, ho => (injection ho with ho; subst ho; have ec : ∀ v, a1.eval (.const v) = v := fun _ => rfl; have ef : ∀ f, a1.eval (.func f) = .func (.func f) #[] #[] := fun _ => rfl; have e0 : a1.eval (.tmp 23) = .int .i64 who := st.done 2 23 (hdep ⟨2, .data⟩ (by simp) rfl) rfl; have e1 : a1.eval (.tmp 24) = .int .u64 k := st.done 3 24 (hdep ⟨3, .data⟩ (by simp) rfl) rfl; exact AnyOrder.step_call rfl (AnyOrder.wanted_none rfl) 29 #[.int .i64 who, .int .u64 k] (by generalize a1.eval = ρ at ec ef e0 e1 ⊢; simp [execOp, ec, ef, e0, e1, go_sem]) ((CP.out w2).mono (fun e w3 h => by obtain ⟨rfl, hb⟩ := h; exact ⟨_, rfl, st.inv.trans (hb.mono st.inv.size), hb, rfl⟩)))
    | 5, ho => (injection ho with ho; subst ho; have ec : ∀ v, a1.eval (.const v) = v := fun _ => rfl; have ef : ∀ f, a1.eval (.func f) = .func (.func f) #[] #[] := fun _ => rfl; have e0 : a1.eval (.tmp 22) = sv o b.l.length b.rm := st.done 1 22 (hdep ⟨1, .data⟩ (by simp) rfl) rfl; have e1 : a1.eval (.tmp 25) = .string (pl who k) := st.done 4 25 (hdep ⟨4, .data⟩ (by simp) rfl) rfl; exact AnyOrder.step_call rfl (AnyOrder.wanted_none rfl) 28 #[sv o b.l.length b.rm, .string (pl who k)] (by generalize a1.eval = ρ at ec ef e0 e1 ⊢; simp [execOp, ec, ef, e0, e1, go_sem]) ((CG.out w2 (HS.out.step st.inv)).mono (fun e w3 h => by obtain ⟨rfl, hb⟩ := h; exact ⟨_, rfl, st.inv.trans (hb.mono st.inv.size), hb, rfl⟩)))
    | 6, ho => (injection ho with ho; subst ho; have ec : ∀ v, a1.eval (.const v) = v := fun _ => rfl; have ef : ∀ f, a1.eval (.func f) = .func (.func f) #[] #[] := fun _ => rfl; have e0 : a1.eval (.tmp 26) = .tuple #[x.V, .bool true] := st.done 5 26 (hdep ⟨5, .data⟩ (by simp) rfl) rfl; exact AnyOrder.step_value rfl (AnyOrder.wanted_none rfl) (.tuple #[x.V, .bool true]) (AnyOrder.run_move e0) st.inv (Below.refl _ _) rfl)
    | 7, ho => (injection ho with ho; subst ho; have ec : ∀ v, a1.eval (.const v) = v := fun _ => rfl; have ef : ∀ f, a1.eval (.func f) = .func (.func f) #[] #[] := fun _ => rfl; have e0 : a1.eval (.tmp 20) = .tuple #[x.V, .bool true] := st.done 6 20 (hdep ⟨6, .data⟩ (by simp) rfl) rfl; exact AnyOrder.step_value rfl (AnyOrder.wanted_none rfl) (x.V) (by generalize a1.eval = ρ at ec ef e0 ⊢; simp [execOp, ec, ef, e0, IntWalk.i64_left, go_sem]) st.inv (Below.refl _ _) rfl)
    | 8, ho => (injection ho with ho; subst ho; have ec : ∀ v, a1.eval (.const v) = v := fun _ => rfl; have ef : ∀ f, a1.eval (.func f) = .func (.func f) #[] #[] := fun _ => rfl; have e0 : a1.eval (.tmp 20) = .tuple #[x.V, .bool true] := st.done 6 20 (hdep ⟨6, .data⟩ (by simp) rfl) rfl; exact AnyOrder.step_value rfl (AnyOrder.wanted_none rfl) (.bool true) (by generalize a1.eval = ρ at ec ef e0 ⊢; simp [execOp, ec, ef, e0, IntWalk.i64_left, go_sem]) st.inv (Below.refl _ _) rfl)
    | 9, ho => (injection ho with ho; subst ho; have ec : ∀ v, a1.eval (.const v) = v := fun _ => rfl; have ef : ∀ f, a1.eval (.func f) = .func (.func f) #[] #[] := fun _ => rfl; exact AnyOrder.step_value rfl (AnyOrder.wanted_none rfl) (ptr w2.heap.size 0) run_alloc_e (st.inv.alloc st.inv.size _) (below_new _ _) ⟨_, rfl, st.inv.size, by simp, heap_alloc_new _ _⟩)
    | n + 10, ho => exact absurd hin (by omega)
  · intro w3 hJ3
    simp only [AnyOrder.finK, List.take_succ_cons, List.take_zero, List.drop_succ_cons, List.drop_zero, Act.put, List.setIfInBounds_toArray, List.set_cons_zero, List.set_cons_succ]
    rintro v9 ⟨t, rfl, lt1, lt2, ht⟩
    have HT3 : Hid (EAt w3 t ze) := Lib.hid ht
    refine ⟨_, run_store_e (b := x) rfl rfl ht, ?_⟩
    have HT : Hid (EAt (w3.setRow t x.cells) t x) := Lib.hid (EAt.setRow HT3.out x)
    have hg : w.heap.size ≠ t := by have := At.lt HK.out; omega
    have HK4 : Hid (KyAt (w3.setRow t x.cells) w.heap.size b o) := Lib.hid (At.farRow (At.step HK.out hJ3) hg)
    have HS4 := Lib.hid (YAt.farRow (ds := x.cells) (HS.out.step hJ3) ht (by decide) (by decide))
    have HB4 := Lib.hid (below_setRow (HB.out.trans (hJ3.mono HB.out.size)) (show w.heap.size ≤ t from Nat.le_trans HB.out.size lt1) x.cells)
    clear HK HS HB hJ3 ht HT3 lt1 lt2 hg CP CG
    obtain ⟨w4, hw4⟩ : ∃ w4, w3.setRow t x.cells = w4 := ⟨_, rfl⟩
    rw [hw4] at HT HK4 HS4 HB4 ⊢; clear hw4
    have k1 := HT.out.get1; have k2 := HT.out.get2
    by_cases hxb : x.body = body
    · obtain rfl : r = (x.ans, 2) := by rw [HR.out, if_pos hxb]
      have q1 : (x.body.toList == body.toList) = true := by rw [hxb]; simp
      clear hxb
      go_wp2_with fail
      go_ret2
      exact ⟨rfl, HB4.out⟩
    · obtain rfl : r = (zt, 3) := by rw [HR.out, if_neg hxb]
      have q1 : (x.body.toList == body.toList) = false := text_ne hxb
      clear hxb
      go_wp2_with fail
      go_ret2
      exact ⟨rfl, HB4.out⟩
set_option maxRecDepth 100000 in
set_option maxHeartbeats 1600000 in
theorem look_none {b : Ky} {o : Option Addr} {w : World} (now who k : Int) (body : ByteArray) (hk : isU k) (hb : YAt w b o) (hc : canK b.c now who k = true) (hg : get (pl who k) b.l = none) :
    Calls Try.prog 14 #[b.V o, .int .i64 now, .int .i64 who, .int .u64 k, .string body] w (TAns w (lookK b now who k body)) := by
  obtain ⟨r, hr⟩ : ∃ r, lookK b now who k body = r := ⟨_, rfl⟩
  rw [hr]
  have HR := Lib.hid (show r = if ((cnt now b.l).length : Int) = b.c.get 5 then (zt, 5) else (zt, 1) from by rw [← hr]; unfold lookK; rw [if_pos hc, hg])
  clear hr
  obtain ⟨x, hx⟩ : ∃ x : E, ze = x := ⟨_, rfl⟩
  have H := Lib.hid (new1 w (b.cells o) 31)
  have HS0 := Lib.hid (hb.step H.out.1); clear hb
  have CC0 := fun W => can_any (b := b) (o := o) (w := W) now who k hk
  rw [hc] at CC0
  have CC := Lib.hid CC0; clear CC0
  obtain ⟨hw, hok, _⟩ := canK_in hc
  have HW := Lib.hid hw; have HU := Lib.hid hk
  have CP := Lib.hid (fun W => keyPlace_any hw hk W)
  have CG := fun W (h : YAt W b o) => Sh.get_any (pl who k) h
  clear hw hk hc hok
  rw [hg] at CG
  have CG0 : ∀ W, YAt W b o → Calls Try.prog 28 #[sv o b.l.length b.rm, .string (pl who k)] W fun e w' => e = .returned (.tuple #[ze.V, .bool false]) ∧ Below W.heap.size W w' := CG
  rw [hx] at CG0
  have CG := Lib.hid CG0; clear CG0
  have HX := Lib.hid hx; clear hx
  clear hg
  go_enter Try.func14, Try.ntmps14
  go_upto_region 1 with fail
  obtain ⟨W, hW⟩ : ∃ W, w.alloc (.cells (b.cells o) 31) = W := ⟨_, rfl⟩
  rw [hW] at H HS0 ⊢; clear hW
  have HK0 := Lib.hid H.out.2; have HB0 := Lib.hid H.out.1; clear H
  go_wp2_with ((with_reducible apply wpList_load_ky (h := HK0.out)); exact rfl; exact rfl; exact rfl)
  refine (CC.out _).mono ?_
  rintro e w1 ⟨rfl, hb1⟩
  have HK : Hid (KyAt w1 w.heap.size b o) := Lib.hid (HK0.out.step hb1)
  have HS := Lib.hid (HS0.out.step hb1)
  have HB := Lib.hid (HB0.out.trans (hb1.mono HB0.out.size))
  clear HK0 HS0 HB0 CC hb1
  go_upto_region 3 with fail
  refine AnyOrder.region_store2 10 [.eq (ptr w.heap.size 18), .eq (sv o b.l.length b.rm), .eq (.int .i64 who), .eq (.int .u64 k), .eq (.string (pl who k)), .eq (.tuple #[x.V, .bool false]), .eq (.tuple #[x.V, .bool false]), .eq (x.V), .eq (.bool false), .of (AnyOrder.Fresh w1 65 ze.cells)] (fun wx => Below w1.heap.size w1 wx) 8 28 12 27 65 (.bool false) _ _ (by kernel_rfl) (by kernel_rfl) rfl (by kernel_rfl) rfl rfl (by decide) rfl rfl rfl rfl rfl (by decide) rfl (fun a w w1 hJ hd hr hs => by have e : a.eval (.tmp 20) = .tuple #[x.V, .bool false] := hd 6 20 (by decide) (by decide) rfl; generalize a.eval = ρ at e ⊢; simp [execOp, e, go_sem]) (below_drewN (Below.refl _ _) 1) (fun p w w2 hp _ hb v hv => by simp at hp; subst hp; exact AnyOrder.Fresh.keep hv hb) ?_ ?_
  · intro i o listed a1 w2 hin ho st hl hdep
    match i, ho with
    | 0, ho => (injection ho with ho; subst ho; have ec : ∀ v, a1.eval (.const v) = v := fun _ => rfl; have ef : ∀ f, a1.eval (.func f) = .func (.func f) #[] #[] := fun _ => rfl; have e0 : a1.eval (.tmp 5) = ptr w.heap.size 0 := st.old hl 5 (by kernel_rfl); exact AnyOrder.step_value rfl (AnyOrder.wanted_none rfl) (ptr w.heap.size 18) (by generalize a1.eval = ρ at ec ef e0 ⊢; simp [execOp, ec, ef, e0, IntWalk.i64_left, go_sem]) st.inv (Below.refl _ _) rfl)
    | 1, ho => (injection ho with ho; subst ho; have ec : ∀ v, a1.eval (.const v) = v := fun _ => rfl; have ef : ∀ f, a1.eval (.func f) = .func (.func f) #[] #[] := fun _ => rfl; have e0 : a1.eval (.tmp 21) = ptr w.heap.size 18 := st.done 0 21 (hdep ⟨0, .data⟩ (by simp) rfl) rfl; exact AnyOrder.step_value rfl (AnyOrder.wanted_none rfl) (sv o b.l.length b.rm) (run_load_sv e0 (KyAt.lv (At.step HK.out st.inv))) st.inv (Below.refl _ _) rfl)
    | 2, ho => (injection ho with ho; subst ho; have ec : ∀ v, a1.eval (.const v) = v := fun _ => rfl; have ef : ∀ f, a1.eval (.func f) = .func (.func f) #[] #[] := fun _ => rfl; have e0 : a1.eval (.tmp 2) = .int .i64 who := st.old hl 2 (by kernel_rfl); exact AnyOrder.step_value rfl (AnyOrder.wanted_none rfl) (.int .i64 who) (AnyOrder.run_move e0) st.inv (Below.refl _ _) rfl)
    | 3, ho => (injection ho with ho; subst ho; have ec : ∀ v, a1.eval (.const v) = v := fun _ => rfl; have ef : ∀ f, a1.eval (.func f) = .func (.func f) #[] #[] := fun _ => rfl; have e0 : a1.eval (.tmp 3) = .int .u64 k := st.old hl 3 (by kernel_rfl); exact AnyOrder.step_value rfl (AnyOrder.wanted_none rfl) (.int .u64 k) (AnyOrder.run_move e0) st.inv (Below.refl _ _) rfl)
    | 4, ho => (injection ho with ho; subst ho; have ec : ∀ v, a1.eval (.const v) = v := fun _ => rfl; have ef : ∀ f, a1.eval (.func f) = .func (.func f) #[] #[] := fun _ => rfl; have e0 : a1.eval (.tmp 23) = .int .i64 who := st.done 2 23 (hdep ⟨2, .data⟩ (by simp) rfl) rfl; have e1 : a1.eval (.tmp 24) = .int .u64 k := st.done 3 24 (hdep ⟨3, .data⟩ (by simp) rfl) rfl; exact AnyOrder.step_call rfl (AnyOrder.wanted_none rfl) 29 #[.int .i64 who, .int .u64 k] (by generalize a1.eval = ρ at ec ef e0 e1 ⊢; simp [execOp, ec, ef, e0, e1, go_sem]) ((CP.out w2).mono (fun e w3 h => by obtain ⟨rfl, hb⟩ := h; exact ⟨_, rfl, st.inv.trans (hb.mono st.inv.size), hb, rfl⟩)))
    | 5, ho => (injection ho with ho; subst ho; have ec : ∀ v, a1.eval (.const v) = v := fun _ => rfl; have ef : ∀ f, a1.eval (.func f) = .func (.func f) #[] #[] := fun _ => rfl; have e0 : a1.eval (.tmp 22) = sv o b.l.length b.rm := st.done 1 22 (hdep ⟨1, .data⟩ (by simp) rfl) rfl; have e1 : a1.eval (.tmp 25) = .string (pl who k) := st.done 4 25 (hdep ⟨4, .data⟩ (by simp) rfl) rfl; exact AnyOrder.step_call rfl (AnyOrder.wanted_none rfl) 28 #[sv o b.l.length b.rm, .string (pl who k)] (by generalize a1.eval = ρ at ec ef e0 e1 ⊢; simp [execOp, ec, ef, e0, e1, go_sem]) ((CG.out w2 (HS.out.step st.inv)).mono (fun e w3 h => by obtain ⟨rfl, hb⟩ := h; exact ⟨_, rfl, st.inv.trans (hb.mono st.inv.size), hb, rfl⟩)))
    | 6, ho => (injection ho with ho; subst ho; have ec : ∀ v, a1.eval (.const v) = v := fun _ => rfl; have ef : ∀ f, a1.eval (.func f) = .func (.func f) #[] #[] := fun _ => rfl; have e0 : a1.eval (.tmp 26) = .tuple #[x.V, .bool false] := st.done 5 26 (hdep ⟨5, .data⟩ (by simp) rfl) rfl; exact AnyOrder.step_value rfl (AnyOrder.wanted_none rfl) (.tuple #[x.V, .bool false]) (AnyOrder.run_move e0) st.inv (Below.refl _ _) rfl)
    | 7, ho => (injection ho with ho; subst ho; have ec : ∀ v, a1.eval (.const v) = v := fun _ => rfl; have ef : ∀ f, a1.eval (.func f) = .func (.func f) #[] #[] := fun _ => rfl; have e0 : a1.eval (.tmp 20) = .tuple #[x.V, .bool false] := st.done 6 20 (hdep ⟨6, .data⟩ (by simp) rfl) rfl; exact AnyOrder.step_value rfl (AnyOrder.wanted_none rfl) (x.V) (by generalize a1.eval = ρ at ec ef e0 ⊢; simp [execOp, ec, ef, e0, IntWalk.i64_left, go_sem]) st.inv (Below.refl _ _) rfl)
    | 8, ho => (injection ho with ho; subst ho; have ec : ∀ v, a1.eval (.const v) = v := fun _ => rfl; have ef : ∀ f, a1.eval (.func f) = .func (.func f) #[] #[] := fun _ => rfl; have e0 : a1.eval (.tmp 20) = .tuple #[x.V, .bool false] := st.done 6 20 (hdep ⟨6, .data⟩ (by simp) rfl) rfl; exact AnyOrder.step_value rfl (AnyOrder.wanted_none rfl) (.bool false) (by generalize a1.eval = ρ at ec ef e0 ⊢; simp [execOp, ec, ef, e0, IntWalk.i64_left, go_sem]) st.inv (Below.refl _ _) rfl)
    | 9, ho => (injection ho with ho; subst ho; have ec : ∀ v, a1.eval (.const v) = v := fun _ => rfl; have ef : ∀ f, a1.eval (.func f) = .func (.func f) #[] #[] := fun _ => rfl; exact AnyOrder.step_value rfl (AnyOrder.wanted_none rfl) (ptr w2.heap.size 0) run_alloc_e (st.inv.alloc st.inv.size _) (below_new _ _) ⟨_, rfl, st.inv.size, by simp, heap_alloc_new _ _⟩)
    | n + 10, ho => exact absurd hin (by omega)
  · intro w3 hJ3
    simp only [AnyOrder.finK, List.take_succ_cons, List.take_zero, List.drop_succ_cons, List.drop_zero, Act.put, List.setIfInBounds_toArray, List.set_cons_zero, List.set_cons_succ]
    rintro v9 ⟨t, rfl, lt1, lt2, ht⟩
    have HT3 : Hid (EAt w3 t ze) := Lib.hid ht
    refine ⟨_, run_store_e (b := x) rfl rfl ht, ?_⟩
    have HT : Hid (EAt (w3.setRow t x.cells) t x) := Lib.hid (EAt.setRow HT3.out x)
    have hg : w.heap.size ≠ t := by have := At.lt HK.out; omega
    have HK4 : Hid (KyAt (w3.setRow t x.cells) w.heap.size b o) := Lib.hid (At.farRow (At.step HK.out hJ3) hg)
    have HS4 := Lib.hid (YAt.farRow (ds := x.cells) (HS.out.step hJ3) ht (by decide) (by decide))
    have HB4 := Lib.hid (below_setRow (HB.out.trans (hJ3.mono HB.out.size)) (show w.heap.size ≤ t from Nat.le_trans HB.out.size lt1) x.cells)
    clear HK HS HB hJ3 ht HT3 lt1 lt2 hg CP CG
    obtain ⟨w4, hw4⟩ : ∃ w4, w3.setRow t x.cells = w4 := ⟨_, rfl⟩
    rw [hw4] at HT HK4 HS4 HB4 ⊢; clear hw4
    have k1 := HT.out.get1; have k2 := HT.out.get2
    have CT := Lib.hid (fun W (h : YAt W b o) => count_any now h)
    obtain ⟨u, hu⟩ : ∃ u : Bool, (((cnt now b.l).length : Int) == b.c.get 5) = u := ⟨_, rfl⟩
    have HE := Lib.hid (show r = if u = true then (zt, 5) else (zt, 1) by rw [HR.out, ← hu]; simp)
    clear HR
    generalize ((cnt now b.l).length : Int) = N at *
    go_upto_region 8 with fail
    refine AnyOrder.region_kinds2 8 [.eq (b.V o), .eq (.int .i64 now), .eq (.int .i64 N), .eq (ptr w.heap.size 0), .eq (ptr w.heap.size 5), .eq (.int .i64 (b.c.get 5)), .eq (.bool u), .eq (.bool u)] (fun wx => Below w4.heap.size w4 wx) (by kernel_rfl) (by kernel_rfl) rfl (by kernel_rfl) (below_drewN (Below.refl _ _) 1) (fun p _ _ hp => by simp at hp) ?_ ?_
    · intro i o listed a1 w2 hin ho st hl hdep
      match i, ho with
      | 0, ho => (injection ho with ho; subst ho; have ec : ∀ v, a1.eval (.const v) = v := fun _ => rfl; have ef : ∀ f, a1.eval (.func f) = .func (.func f) #[] #[] := fun _ => rfl; have e0 : a1.eval (.tmp 5) = ptr w.heap.size 0 := st.old hl 5 (by kernel_rfl); exact AnyOrder.step_value rfl (AnyOrder.wanted_none rfl) (b.V o) (run_load_ky e0 (At.step HK4.out st.inv)) st.inv (Below.refl _ _) rfl)
      | 1, ho => (injection ho with ho; subst ho; have ec : ∀ v, a1.eval (.const v) = v := fun _ => rfl; have ef : ∀ f, a1.eval (.func f) = .func (.func f) #[] #[] := fun _ => rfl; have e0 : a1.eval (.tmp 1) = .int .i64 now := st.old hl 1 (by kernel_rfl); exact AnyOrder.step_value rfl (AnyOrder.wanted_none rfl) (.int .i64 now) (AnyOrder.run_move e0) st.inv (Below.refl _ _) rfl)
      | 2, ho => (injection ho with ho; subst ho; have ec : ∀ v, a1.eval (.const v) = v := fun _ => rfl; have ef : ∀ f, a1.eval (.func f) = .func (.func f) #[] #[] := fun _ => rfl; have e0 : a1.eval (.tmp 42) = b.V o := st.done 0 42 (hdep ⟨0, .data⟩ (by simp) rfl) rfl; have e1 : a1.eval (.tmp 43) = .int .i64 now := st.done 1 43 (hdep ⟨1, .data⟩ (by simp) rfl) rfl; exact AnyOrder.step_call rfl (AnyOrder.wanted_none rfl) 19 #[b.V o, .int .i64 now] (by generalize a1.eval = ρ at ec ef e0 e1 ⊢; simp [execOp, ec, ef, e0, e1, go_sem]) ((CT.out w2 (HS4.out.step st.inv)).mono (fun e w3 h => by obtain ⟨rfl, hb⟩ := h; exact ⟨_, rfl, st.inv.trans (hb.mono st.inv.size), hb, rfl⟩)))
      | 3, ho => (injection ho with ho; subst ho; have ec : ∀ v, a1.eval (.const v) = v := fun _ => rfl; have ef : ∀ f, a1.eval (.func f) = .func (.func f) #[] #[] := fun _ => rfl; have e0 : a1.eval (.tmp 5) = ptr w.heap.size 0 := st.old hl 5 (by kernel_rfl); exact AnyOrder.step_value rfl (AnyOrder.wanted_none rfl) (ptr w.heap.size 0) (by generalize a1.eval = ρ at ec ef e0 ⊢; simp [execOp, ec, ef, e0, IntWalk.i64_left, go_sem]) st.inv (Below.refl _ _) rfl)
      | 4, ho => (injection ho with ho; subst ho; have ec : ∀ v, a1.eval (.const v) = v := fun _ => rfl; have ef : ∀ f, a1.eval (.func f) = .func (.func f) #[] #[] := fun _ => rfl; have e0 : a1.eval (.tmp 45) = ptr w.heap.size 0 := st.done 3 45 (hdep ⟨3, .data⟩ (by simp) rfl) rfl; exact AnyOrder.step_value rfl (AnyOrder.wanted_none rfl) (ptr w.heap.size 5) (by generalize a1.eval = ρ at ec ef e0 ⊢; simp [execOp, ec, ef, e0, IntWalk.i64_left, go_sem]) st.inv (Below.refl _ _) rfl)
      | 5, ho => (injection ho with ho; subst ho; have ec : ∀ v, a1.eval (.const v) = v := fun _ => rfl; have ef : ∀ f, a1.eval (.func f) = .func (.func f) #[] #[] := fun _ => rfl; have e0 : a1.eval (.tmp 46) = ptr w.heap.size 5 := st.done 4 46 (hdep ⟨4, .data⟩ (by simp) rfl) rfl; exact AnyOrder.step_value rfl (AnyOrder.wanted_none rfl) (.int .i64 (b.c.get 5)) (by have hk := KyAt.cget (At.step HK4.out st.inv) (k := 5) (by decide); generalize a1.eval = ρ at ec ef e0 ⊢; simp [execOp, e0, go_sem, hk]) st.inv (Below.refl _ _) rfl)
      | 6, ho => (injection ho with ho; subst ho; have ec : ∀ v, a1.eval (.const v) = v := fun _ => rfl; have ef : ∀ f, a1.eval (.func f) = .func (.func f) #[] #[] := fun _ => rfl; have e0 : a1.eval (.tmp 44) = .int .i64 N := st.done 2 44 (hdep ⟨2, .data⟩ (by simp) rfl) rfl; have e1 : a1.eval (.tmp 47) = .int .i64 (b.c.get 5) := st.done 5 47 (hdep ⟨5, .data⟩ (by simp) rfl) rfl; exact AnyOrder.step_value rfl (AnyOrder.wanted_none rfl) (.bool u) (by generalize a1.eval = ρ at ec ef e0 e1 ⊢; simp [execOp, ec, ef, e0, e1, IntWalk.i64_left, hu, go_sem]) st.inv (Below.refl _ _) rfl)
      | 7, ho => (injection ho with ho; subst ho; have ec : ∀ v, a1.eval (.const v) = v := fun _ => rfl; have ef : ∀ f, a1.eval (.func f) = .func (.func f) #[] #[] := fun _ => rfl; have e0 : a1.eval (.tmp 48) = .bool u := st.done 6 48 (hdep ⟨6, .data⟩ (by simp) rfl) rfl; exact AnyOrder.step_value rfl (AnyOrder.wanted_none rfl) (.bool u) (by generalize a1.eval = ρ at ec ef e0 ⊢; simp [execOp, ec, ef, e0, IntWalk.i64_left, go_sem]) st.inv (Below.refl _ _) rfl)
      | n + 8, ho => exact absurd hin (by omega)
    · intro w5 hJ5
      simp only [AnyOrder.finK, List.take_succ_cons, List.take_zero, List.drop_succ_cons, List.drop_zero, Act.put, List.setIfInBounds_toArray, List.set_cons_zero, List.set_cons_succ]
      have HB5 := Lib.hid (HB4.out.trans (hJ5.mono HB4.out.size))
      clear hu HK4 HS4 HB4 hJ5 CT
      cases u
      · obtain rfl : r = (zt, 1) := HE.out
        go_wp2_with fail
        go_ret2
        exact ⟨rfl, HB5.out⟩
      · obtain rfl : r = (zt, 5) := HE.out
        go_wp2_with fail
        go_ret2
        exact ⟨rfl, HB5.out⟩
theorem look_any {b : Ky} {o : Option Addr} {w : World} (now who k : Int) (body : ByteArray) (hk : isU k) (hb : YAt w b o) : Calls Try.prog 14 #[b.V o, .int .i64 now, .int .i64 who, .int .u64 k, .string body] w (TAns w (lookK b now who k body)) := by
  cases hc : canK b.c now who k
  · exact look_late now who k body hk hb hc
  · cases hg : get (pl who k) b.l with
    | none => exact look_none now who k body hk hb hc hg
    | some x => exact look_some now who k body hk hb hc hg
end Go.Proofs.Ytedogbkkophghaa
