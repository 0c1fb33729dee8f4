/- Keys: Make. -/
import Derived.Test.YtedogbkkophghaaKyD
namespace Go.Proofs.Ytedogbkkophghaa
open Go.RowKit Go.Lib
open Sh.Plain (KV get put Rise)
set_option linter.unusedVariables false
set_option linter.unusedSimpArgs false

/-- keys without entries -/
def makeK (c : Cfg) : Ky := if okc c = true then ⟨c, [], (c.get 5).toNat⟩ else zy
/-- what a call answers that makes keys -/
def YAns (w : World) (b : Ky) (e : Ending) (w' : World) : Prop := ∃ o, e = .returned (b.V o) ∧ YAt w' b o ∧ Below w.heap.size w w'
theorem newSv_any (n : Int) (w : World) : Calls Try.prog 24 #[.int .i64 n] w fun e w' => e = .returned (sv none 0 (Sh.rm n)) ∧ Below w.heap.size w w' := by
  refine (Sh.new_any n w).mono ?_
  rintro e w' ⟨v, rfl, ⟨vt, t, rfl, ht, hk, _⟩, hb⟩
  cases t with
  | nil => obtain rfl : vt = .pointer none := ht; exact ⟨rfl, hb⟩
  | node l p x r => rw [Sh.Plain.T.kvs_node] at hk; simp at hk
theorem built_ky (c : Cfg) (r : Nat) : Try.prog.built 31 [(0, c.V), (1, sv none 0 r)] = some ((⟨c, [], r⟩ : Ky).cells none) := by
  obtain ⟨n, s, hl⟩ := c
  match n, hl with
  | [a0, a1, a2, a3, a4, a5, a6, a7, a8, a9, a10, a11, a12, a13, a14, a15, a16], _ => show _ = _; kernel_rfl
theorem run_build_ky {ρ : Operand → Value} {w : World} {x y : Tmp} {c : Cfg} {r : Nat} {d : Option Tmp} {t : TypeId} {pos : String} {af : Array Edge} {gd : Option (Nat × Bool)} (e1 : ρ (.tmp x) = c.V) (e2 : ρ (.tmp y) = sv none 0 r) :
    (execOp ρ { dst := d, op := Op.build 31 #[(0, .tmp x), (1, .tmp y)], type := t, pos := pos, after := af, guard := gd }).run Try.prog w = .ok (.value ((⟨c, [], r⟩ : Ky).V none)) w := by
  have hf : Try.prog.built 31 ((#[(0, Operand.tmp x), (1, .tmp y)] : Array (Nat × Operand)).map fun (i, u) => (i, ρ u)).toList = some ((⟨c, [], r⟩ : Ky).cells none) := by
    simp only [List.map_toArray, List.map_cons, List.map_nil, e1, e2]
    exact built_ky c r
  unfold execOp
  simp only [Sem.run_bind, run_build w 31 _ _ hf, Result.andThen_ok, Sem.run_pure]
set_option maxRecDepth 100000 in
set_option maxHeartbeats 1600000 in
theorem make_no (c : Cfg) (w : World) (h : okc c = false) : Calls Try.prog 8 #[c.V] w (YAns w (makeK c)) := by
  have H := Lib.hid (new2 w c.cells Z21 24 31)
  rw [show makeK c = zy from if_neg (by rw [h]; decide)]
  have CK0 := fun W => check_any c W
  rw [chk_no h] at CK0
  have CK := Lib.hid CK0; clear CK0 h
  go_enter Try.func8, Try.ntmps8
  go_upto_region 1 with fail
  obtain ⟨W, hW⟩ : ∃ W, (w.alloc (.cells c.cells 24)).alloc (.cells Z21 31) = W := ⟨_, rfl⟩
  rw [hW] at H ⊢; clear hW
  have HC : Hid (CAt W w.heap.size c) := Lib.hid H.out.2.1
  have HQ0 : Hid (KyAt W (w.heap.size + 1) zy none) := Lib.hid H.out.2.2
  have HB0 := Lib.hid H.out.1; clear H
  have lo : w.heap.size ≤ w.heap.size + 1 := by omega
  generalize w.heap.size + 1 = q at *
  go_wp2_with ((with_reducible apply wpList_load_cat (h := HC.out)); exact rfl; exact rfl; exact rfl)
  refine (CK.out _).mono ?_
  rintro e w1 ⟨rfl, hb1⟩
  have HQ : Hid (KyAt w1 q zy none) := Lib.hid (HQ0.out.step hb1)
  have HB := Lib.hid (HB0.out.trans (hb1.mono HB0.out.size))
  clear HC HQ0 HB0 CK hb1
  go_wp2_with (first | ((with_reducible apply wpList_build_zy); exact rfl; exact rfl) | ((with_reducible apply wpList_store_ky (b := zy) (s := none) (hq := HQ.out)); exact rfl; exact rfl; exact rfl; exact rfl))
  exact bodyPost_ret (results_one Try.results8 rfl (At.setRow HQ.out _)) rfl ⟨none, rfl, (YAt.zero w1).farRow HQ.out (by decide) (by decide), setRow_below HB.out lo _⟩
theorem makeK_at (w : World) (c : Cfg) (h : okc c = true) : YAt w ⟨c, [], (c.get 5).toNat⟩ none := by
  have h5 : lo 5 ≤ c.get 5 ∧ c.get 5 ≤ hi 5 := ok_at h (by decide)
  have h5 : (1 : Int) ≤ c.get 5 ∧ c.get 5 ≤ 64 := h5
  exact Sh.sat_nil w _ (show (c.get 5).toNat ≤ 65536 by omega)
set_option maxRecDepth 100000 in
set_option maxHeartbeats 1600000 in
theorem make_ok (c : Cfg) (w : World) (h : okc c = true) : Calls Try.prog 8 #[c.V] w (YAns w (makeK c)) := by
  have H := Lib.hid (new2 w c.cells Z21 24 31)
  rw [show makeK c = ⟨c, [], (c.get 5).toNat⟩ from if_pos h]
  have CK0 := fun W => check_any c W
  rw [chk_ok h] at CK0
  have CK := Lib.hid CK0; clear CK0
  have h5 : lo 5 ≤ c.get 5 ∧ c.get 5 ≤ hi 5 := ok_at h (by decide)
  have h5 : (1 : Int) ≤ c.get 5 ∧ c.get 5 ≤ 64 := h5
  have erm : Sh.rm (c.get 5) = (c.get 5).toNat := if_neg (by omega)
  have HOK := Lib.hid h; have HRM := Lib.hid erm
  clear h h5 erm
  go_enter Try.func8, Try.ntmps8
  go_upto_region 1 with fail
  obtain ⟨W, hW⟩ : ∃ W, (w.alloc (.cells c.cells 24)).alloc (.cells Z21 31) = W := ⟨_, rfl⟩
  rw [hW] at H ⊢; clear hW
  have HC0 : Hid (CAt W w.heap.size c) := Lib.hid H.out.2.1
  have HQ0 : Hid (KyAt W (w.heap.size + 1) zy none) := Lib.hid H.out.2.2
  have HB0 := Lib.hid H.out.1; clear H
  have lo : w.heap.size ≤ w.heap.size + 1 := by omega
  generalize w.heap.size + 1 = q at *
  go_wp2_with ((with_reducible apply wpList_load_cat (h := HC0.out)); exact rfl; exact rfl; exact rfl)
  refine (CK.out _).mono ?_
  rintro e w1 ⟨rfl, hb1⟩
  have HQ : Hid (KyAt w1 q zy none) := Lib.hid (HQ0.out.step hb1)
  have HC : Hid (CAt w1 w.heap.size c) := Lib.hid (HC0.out.step hb1)
  have HB := Lib.hid (HB0.out.trans (hb1.mono HB0.out.size))
  clear HC0 HQ0 HB0 CK hb1
  go_upto_region 3 with fail
  refine AnyOrder.region_kinds2 5 [.eq (c.V), .eq (ptr w.heap.size 5), .eq (.int .i64 (c.get 5)), .eq (sv none 0 (c.get 5).toNat), .eq ((⟨c, [], (c.get 5).toNat⟩ : Ky).V none)] (fun wx => Below w1.heap.size w1 wx) (by kernel_rfl) (by kernel_rfl) rfl (by kernel_rfl) (below_drewN (Below.refl _ _) 1) (fun p _ _ hp => by simp at hp) ?_ ?_
  · intro i o listed a1 w2 hin ho st hl hdep
    match i, ho with
    | 0, ho => (injection ho with ho; subst ho; have ec : ∀ v, a1.eval (.const v) = v := fun _ => rfl; have ef : ∀ f, a1.eval (.func f) = .func (.func f) #[] #[] := fun _ => rfl; have e0 : a1.eval (.tmp 1) = ptr w.heap.size 0 := st.old hl 1 (by kernel_rfl); exact AnyOrder.step_value rfl (AnyOrder.wanted_none rfl) (c.V) (run_load_cfg e0 (CAt.step HC.out st.inv)) st.inv (Below.refl _ _) rfl)
    | 1, ho => (injection ho with ho; subst ho; have ec : ∀ v, a1.eval (.const v) = v := fun _ => rfl; have ef : ∀ f, a1.eval (.func f) = .func (.func f) #[] #[] := fun _ => rfl; have e0 : a1.eval (.tmp 1) = ptr w.heap.size 0 := st.old hl 1 (by kernel_rfl); exact AnyOrder.step_value rfl (AnyOrder.wanted_none rfl) (ptr w.heap.size 5) (by generalize a1.eval = ρ at ec ef e0 ⊢; simp [execOp, ec, ef, e0, IntWalk.i64_left, go_sem]) st.inv (Below.refl _ _) rfl)
    | 2, ho => (injection ho with ho; subst ho; have ec : ∀ v, a1.eval (.const v) = v := fun _ => rfl; have ef : ∀ f, a1.eval (.func f) = .func (.func f) #[] #[] := fun _ => rfl; have e0 : a1.eval (.tmp 8) = ptr w.heap.size 5 := st.done 1 8 (hdep ⟨1, .data⟩ (by simp) rfl) rfl; exact AnyOrder.step_value rfl (AnyOrder.wanted_none rfl) (.int .i64 (c.get 5)) (by have hk := CAt.get (CAt.step HC.out st.inv) (k := 5) (by decide); generalize a1.eval = ρ at ec ef e0 ⊢; simp [execOp, e0, go_sem, hk]) st.inv (Below.refl _ _) rfl)
    | 3, ho => (injection ho with ho; subst ho; have ec : ∀ v, a1.eval (.const v) = v := fun _ => rfl; have ef : ∀ f, a1.eval (.func f) = .func (.func f) #[] #[] := fun _ => rfl; have e0 : a1.eval (.tmp 9) = .int .i64 (c.get 5) := st.done 2 9 (hdep ⟨2, .data⟩ (by simp) rfl) rfl; exact AnyOrder.step_call rfl (AnyOrder.wanted_none rfl) 24 #[.int .i64 (c.get 5)] (by generalize a1.eval = ρ at ec ef e0 ⊢; simp [execOp, ec, ef, e0, go_sem]) (((show Calls _ _ _ w2 (fun e w4 => e = .returned (sv none 0 (c.get 5).toNat) ∧ Below w2.heap.size w2 w4) from by have h := newSv_any (c.get 5) w2; rwa [HRM.out] at h)).mono (fun e w3 h => by obtain ⟨rfl, hb⟩ := h; exact ⟨_, rfl, st.inv.trans (hb.mono st.inv.size), hb, rfl⟩)))
    | 4, ho => (injection ho with ho; subst ho; have ec : ∀ v, a1.eval (.const v) = v := fun _ => rfl; have ef : ∀ f, a1.eval (.func f) = .func (.func f) #[] #[] := fun _ => rfl; have e0 : a1.eval (.tmp 7) = c.V := st.done 0 7 (hdep ⟨0, .data⟩ (by simp) rfl) rfl; have e1 : a1.eval (.tmp 10) = sv none 0 (c.get 5).toNat := st.done 3 10 (hdep ⟨3, .data⟩ (by simp) rfl) rfl; exact AnyOrder.step_value rfl (AnyOrder.wanted_none rfl) ((⟨c, [], (c.get 5).toNat⟩ : Ky).V none) (run_build_ky e0 e1) st.inv (Below.refl _ _) rfl)
    | n + 5, ho => exact absurd hin (by omega)
  · intro w3 hJ3
    simp only [AnyOrder.finK, List.take_succ_cons, List.take_zero, List.drop_succ_cons, List.drop_zero, Act.put, List.setIfInBounds_toArray, List.set_cons_zero, List.set_cons_succ]
    have HQ3 : Hid (KyAt w3 q zy none) := Lib.hid (At.step HQ.out hJ3)
    have HB3 := Lib.hid (HB.out.trans (hJ3.mono HB.out.size))
    clear HQ HC HB hJ3
    go_wp2_with ((with_reducible apply wpList_store_ky (b := (⟨c, [], (c.get 5).toNat⟩ : Ky)) (s := none) (hq := HQ3.out)); exact rfl; exact rfl; exact rfl; exact rfl)
    exact bodyPost_ret (results_one Try.results8 rfl (At.setRow HQ3.out _)) rfl ⟨none, rfl, (makeK_at w3 c HOK.out).farRow HQ3.out (by decide) (by decide), setRow_below HB3.out lo _⟩
theorem make_any (c : Cfg) (w : World) : Calls Try.prog 8 #[c.V] w (YAns w (makeK c)) := by
  cases h : okc c
  · exact make_no c w h
  · exact make_ok c w h
end Go.Proofs.Ytedogbkkophghaa
