/- SiteBounds: the walk. -/
import Derived.Test.YthnjghkloodblaaSiteNames
import Derived.Test.YthnjghkloodblaaGrow
namespace Go.Proofs.Ythnjghkloodblaa
open Go.RowKit Go.Lib
set_option linter.unusedVariables false
set_option linter.unusedSimpArgs false

def grows : Array Value := #[.string ⟨#[102, 108, 111, 111, 114, 115]⟩, .string ⟨#[99, 97, 108, 108, 115]⟩, .string ⟨#[100, 111, 111, 114]⟩, .string ⟨#[104, 111, 108, 100, 115]⟩]
def waits : Array Value := #[.string ⟨#[114, 101, 116, 114, 105, 101, 115]⟩, .string ⟨#[105, 110]⟩, .string ⟨#[111, 117, 116]⟩]
theorem grows_at : ∀ j, j < 4 → grows[j]? = some (.string (nm (growK j)))
  | 0, _ => rfl
  | 1, _ => rfl
  | 2, _ => rfl
  | 3, _ => rfl
  | n + 4, h => absurd h (by omega)
theorem waits_at : ∀ j, j < 3 → waits[j]? = some (.string (nm (waitK j)))
  | 0, _ => rfl
  | 1, _ => rfl
  | 2, _ => rfl
  | n + 3, h => absurd h (by omega)
set_option maxRecDepth 100000 in
set_option maxHeartbeats 6400000 in
theorem bounds_no (c : Cfg) (z : Int) (w : World) (h : okc c = false) : Calls Try.prog 5 #[c.V, .int .i64 z] w fun e w' => e = .returned (.bool true) ∧ Below w.heap.size w w' := by
  have HA0 := Lib.hid (CAt.new w c)
  have HB0 := Lib.hid (below_new w (.cells c.cells 24))
  have C9 := Lib.hid (fun W => check_any c W)
  rw [chk_no h] at C9
  clear h
  go_enter Try.func5, Try.ntmps5
  go_wp2_with fail
  refine (awake_any _).mono ?_
  rintro e w1 ⟨rfl, hb⟩
  have HA1 := Lib.hid (HA0.out.step hb)
  have HB1 := Lib.hid (HB0.out.trans (hb.mono HB0.out.size))
  clear hb HA0 HB0
  go_wp2_with (refine wpList_load_row rfl 24 _ rfl _ rfl 24 c.cells (0, 0) _ HA1.out Try.underlying24 rfl (size24 c) ?_)
  refine (C9.out _).mono ?_
  rintro e w2 ⟨rfl, hb⟩
  go_wp2_with fail
  go_ret
  exact ⟨rfl, HB1.out.trans (hb.mono HB1.out.size)⟩
set_option maxRecDepth 100000 in
set_option maxHeartbeats 12800000 in
theorem bounds_ok (c : Cfg) (z : Int) (w : World) (h : okc c = true) : Calls Try.prog 5 #[c.V, .int .i64 z] w fun e w' => e = .returned (.bool true) ∧ Below w.heap.size w w' := by
  obtain ⟨k, hk, hk1, hk3⟩ := at_of z
  have HK1 := Lib.hid hk1; have HK3 := Lib.hid hk3
  clear hk1 hk3
  have HA0 := Lib.hid (CAt.new w c)
  have HB0 := Lib.hid (below_new w (.cells c.cells 24))
  have CM := Lib.hid names_any
  have C9 := Lib.hid (fun (d : Cfg) W => check_any d W)
  have C9C := Lib.hid (fun W => check_any c W)
  rw [chk_ok h] at C9C
  have C9A := Lib.hid (fun W => check_any (c.set k (lo k)) W)
  rw [chk_ok (okc_lo h hk)] at C9A
  have C9B := Lib.hid (fun W => check_any (c.set k (lo k - 1)) W)
  rw [chk_no (okc_less c hk)] at C9B
  have C12 := Lib.hid (fun (d : Cfg) W => ride_any d W)
  have C13 := Lib.hid (fun (d : Cfg) W => answer_any d W)
  have HRP := Lib.hid (rid_pos h)
  have HAP := Lib.hid (ans_in h).1
  have CG := Lib.hid (fun (K : Nat) (hK : K < 17) W => show Calls Try.prog 18 #[c.V, .string (nm K)] W fun e w' => e = .returned (.tuple #[.int .i64 (c.get K), .bool true]) ∧ Below W.heap.size W w' by
    have := get_yes c (nm K) W (by rw [idx_nm hK]; exact hK)
    rwa [idx_nm hK] at this)
  have CS := Lib.hid (fun (K : Nat) (hK : K < 17) (x : Int) W => show Calls Try.prog 19 #[c.V, .string (nm K), .int .i64 x] W fun e w' => e = .returned (.tuple #[(c.set K x).V, .bool true]) ∧ Below W.heap.size W w' by
    have := set_yes c (nm K) x W (by rw [idx_nm hK]; exact hK)
    rwa [idx_nm hK] at this)
  have HINC := Lib.hid (fun K (hK : K < 17) => inc_in h hK)
  have HDEC := Lib.hid (dec_in hk)
  have HRG := Lib.hid (fun K hK hd => rid_grows (c := c) (K := K) hK h hd)
  have HAG := Lib.hid (fun K hK hd => ans_grows (c := c) (K := K) hK h hd)
  clear h
  go_enter Try.func5, Try.ntmps5
  go_wp2_with fail
  refine (awake_any _).mono ?_
  rintro e w1 ⟨rfl, hb⟩
  have HA1 := Lib.hid (HA0.out.step hb)
  have HB1 := Lib.hid (HB0.out.trans (hb.mono HB0.out.size))
  clear hb HA0 HB0
  go_wp2_with (refine wpList_load_row rfl 24 _ rfl _ rfl 24 c.cells (0, 0) _ HA1.out Try.underlying24 rfl (size24 c) ?_)
  refine (C9C.out _).mono ?_
  rintro e w2 ⟨rfl, hb⟩
  have HA2 := Lib.hid (HA1.out.step hb)
  have HB2 := Lib.hid (HB1.out.trans (hb.mono HB1.out.size))
  clear hb HA1 HB1
  go_upto_region 6 with fail
  have hn := below_new w2 (.cells grows 43)
  have HA5 := Lib.hid (HA2.out.step hn).all
  have HX5 := Lib.hid (fun W (hb : Below (w2.alloc (.cells grows 43)).heap.size (w2.alloc (.cells grows 43)) W) j (hj : j < 4) => show W.cell? ⟨w2.heap.size, j, none⟩ = some (.string (nm (growK j))) by
    have := At.below (At.new w2 43 grows) hb (At.lt (At.new w2 43 grows))
    rw [this.cell, grows_at j hj])
  have HB5 := Lib.hid (HB2.out.trans (hn.mono HB2.out.size))
  unfold grows at HA5 HX5 HB5
  obtain ⟨W5, hW5⟩ : ∃ W5, w2.alloc (.cells #[.string ⟨#[102, 108, 111, 111, 114, 115]⟩, .string ⟨#[99, 97, 108, 108, 115]⟩, .string ⟨#[100, 111, 111, 114]⟩, .string ⟨#[104, 111, 108, 100, 115]⟩] 43) = W5 := ⟨_, rfl⟩
  rw [hW5] at HA5 HX5 HB5 ⊢
  clear hW5 hn HA2 HB2
  generalize w2.heap.size = g5 at *
  go_wp2_with fail
  go_loopg [6] 4 (fun gh s6 wx => ∃ j : Nat, j ≤ 4 ∧ gh = 4 - j ∧ s6 = .int .i64 (j : Int) ∧ Below W5.heap.size W5 wx)
  case atStart => exact ⟨0, Nat.zero_le _, rfl, rfl, Below.refl _ _⟩
  case round =>
    obtain ⟨j, hj, hgh, rfl, hcur⟩ := hrel
    have HG := Lib.hid hgh; have HC := Lib.hid hcur; clear hgh hcur
    by_cases hlt : j < 4
    · have hK := growK_lt j hlt
      have hKi := growK_in j hlt
      have HXJ := Lib.hid (fun W hb => HX5.out W hb j hlt)
      generalize growK j = K at hK hKi HXJ
      have b0 : (0 : Int) ≤ (j : Int) := by omega
      have b1 : (j : Int) < 4 := by omega
      have hinc := HINC.out K hK
      have CGK := Lib.hid (CG.out K hK)
      have CSK := Lib.hid (CS.out K hK (c.get K + 1))
      have hgrow := HRG.out K hKi
      have C9D := Lib.hid (fun W => C9.out (c.set K (c.get K + 1)) W)
      have CD := Lib.hid (fun W => C12.out (c.set K (c.get K + 1)) W)
      have CC := Lib.hid (fun W => C12.out c W)
      generalize c.set K (c.get K + 1) = d at hgrow CSK C9D CD
      generalize hx : c.get K + 1 = x at hinc CSK
      have HINCJ : Hid (wrap64 (c.get K + 1) = x) := Lib.hid (by rw [hx]; exact hinc)
      have HA := Lib.hid (HA5.out _ HC.out)
      clear hinc hx hKi hlt
      go_wp2_with fail
      refine AnyOrder.region_kinds2 9 [.eq (c.V), .eq (.int .i64 (j : Int)), .eq (ptr g5 j), .eq (.string (nm K)), .eq (.tuple #[.int .i64 (c.get K), .bool true]), .eq (.tuple #[.int .i64 (c.get K), .bool true]), .eq (.int .i64 (c.get K)), .eq (.bool true), .eq (.int .i64 (c.get K))] (fun wx => Below wr.heap.size wr wx) (by kernel_rfl) (by kernel_rfl) rfl (by kernel_rfl) (below_drewN (Below.refl _ _) 1) (fun p _ _ hp => by simp at hp) ?_ ?_
      · intro i o listed a1 w2 hin ho st hl hdep
        match i, ho with
        | 0, ho => (injection ho with ho; subst ho; have ec : ∀ v, a1.eval (.const v) = v := fun _ => rfl; have ef : ∀ f, a1.eval (.func f) = .func (.func f) #[] #[] := fun _ => rfl; have e0 : a1.eval (.tmp 2) = ptr w.heap.size 0 := st.old hl 2 (by kernel_rfl); exact AnyOrder.step_value rfl (AnyOrder.wanted_none rfl) (c.V) (run_load_cfg e0 (HA.out.step st.inv)) st.inv (Below.refl _ _) rfl)
        | 1, ho => (injection ho with ho; subst ho; have ec : ∀ v, a1.eval (.const v) = v := fun _ => rfl; have ef : ∀ f, a1.eval (.func f) = .func (.func f) #[] #[] := fun _ => rfl; have e0 : a1.eval (.tmp 6) = .int .i64 (j : Int) := st.old hl 6 (by kernel_rfl); exact AnyOrder.step_value rfl (AnyOrder.wanted_none rfl) (.int .i64 (j : Int)) (AnyOrder.run_move e0) st.inv (Below.refl _ _) rfl)
        | 2, ho => (injection ho with ho; subst ho; have ec : ∀ v, a1.eval (.const v) = v := fun _ => rfl; have ef : ∀ f, a1.eval (.func f) = .func (.func f) #[] #[] := fun _ => rfl; have e0 : a1.eval (.tmp 5) = ptr g5 0 := st.old hl 5 (by kernel_rfl); have e1 : a1.eval (.tmp 35) = .int .i64 (j : Int) := st.done 1 35 (hdep ⟨1, .data⟩ (by simp) rfl) rfl; exact AnyOrder.step_value rfl (AnyOrder.wanted_none rfl) (ptr g5 j) (by generalize a1.eval = ρ at ec ef e0 e1 ⊢; simp [execOp, ec, ef, e0, e1, IntWalk.i64_left, b0, b1, go_sem]) st.inv (Below.refl _ _) rfl)
        | 3, ho => (injection ho with ho; subst ho; have ec : ∀ v, a1.eval (.const v) = v := fun _ => rfl; have ef : ∀ f, a1.eval (.func f) = .func (.func f) #[] #[] := fun _ => rfl; have e0 : a1.eval (.tmp 36) = ptr g5 j := st.done 2 36 (hdep ⟨2, .data⟩ (by simp) rfl) rfl; exact AnyOrder.step_value rfl (AnyOrder.wanted_none rfl) (.string (nm K)) (by generalize a1.eval = ρ at ec ef e0 ⊢; simp [execOp, ec, ef, e0, IntWalk.i64_left, HXJ.out _ (HC.out.trans (st.inv.mono HC.out.size)), go_sem]) st.inv (Below.refl _ _) rfl)
        | 4, ho => (injection ho with ho; subst ho; have ec : ∀ v, a1.eval (.const v) = v := fun _ => rfl; have ef : ∀ f, a1.eval (.func f) = .func (.func f) #[] #[] := fun _ => rfl; have e0 : a1.eval (.tmp 34) = c.V := st.done 0 34 (hdep ⟨0, .data⟩ (by simp) rfl) rfl; have e1 : a1.eval (.tmp 37) = .string (nm K) := st.done 3 37 (hdep ⟨3, .data⟩ (by simp) rfl) rfl; exact AnyOrder.step_call rfl (AnyOrder.wanted_none rfl) 18 #[c.V, .string (nm K)] (by generalize a1.eval = ρ at ec ef e0 e1 ⊢; simp [execOp, ec, ef, e0, e1, go_sem]) ((CGK.out _).mono (fun e w3 h => by obtain ⟨rfl, hb⟩ := h; exact ⟨_, rfl, st.inv.trans (hb.mono st.inv.size), hb, rfl⟩)))
        | 5, ho => (injection ho with ho; subst ho; have ec : ∀ v, a1.eval (.const v) = v := fun _ => rfl; have ef : ∀ f, a1.eval (.func f) = .func (.func f) #[] #[] := fun _ => rfl; have e0 : a1.eval (.tmp 38) = .tuple #[.int .i64 (c.get K), .bool true] := st.done 4 38 (hdep ⟨4, .data⟩ (by simp) rfl) rfl; exact AnyOrder.step_value rfl (AnyOrder.wanted_none rfl) (.tuple #[.int .i64 (c.get K), .bool true]) (AnyOrder.run_move e0) st.inv (Below.refl _ _) rfl)
        | 6, ho => (injection ho with ho; subst ho; have ec : ∀ v, a1.eval (.const v) = v := fun _ => rfl; have ef : ∀ f, a1.eval (.func f) = .func (.func f) #[] #[] := fun _ => rfl; have e0 : a1.eval (.tmp 33) = .tuple #[.int .i64 (c.get K), .bool true] := st.done 5 33 (hdep ⟨5, .data⟩ (by simp) rfl) rfl; exact AnyOrder.step_value rfl (AnyOrder.wanted_none rfl) (.int .i64 (c.get K)) (by generalize a1.eval = ρ at ec ef e0 ⊢; simp [execOp, ec, ef, e0, IntWalk.i64_left, go_sem]) st.inv (Below.refl _ _) rfl)
        | 7, ho => (injection ho with ho; subst ho; have ec : ∀ v, a1.eval (.const v) = v := fun _ => rfl; have ef : ∀ f, a1.eval (.func f) = .func (.func f) #[] #[] := fun _ => rfl; have e0 : a1.eval (.tmp 33) = .tuple #[.int .i64 (c.get K), .bool true] := st.done 5 33 (hdep ⟨5, .data⟩ (by simp) rfl) rfl; exact AnyOrder.step_value rfl (AnyOrder.wanted_none rfl) (.bool true) (by generalize a1.eval = ρ at ec ef e0 ⊢; simp [execOp, ec, ef, e0, IntWalk.i64_left, go_sem]) st.inv (Below.refl _ _) rfl)
        | 8, ho => (injection ho with ho; subst ho; have ec : ∀ v, a1.eval (.const v) = v := fun _ => rfl; have ef : ∀ f, a1.eval (.func f) = .func (.func f) #[] #[] := fun _ => rfl; have e0 : a1.eval (.tmp 39) = .int .i64 (c.get K) := st.done 6 39 (hdep ⟨6, .data⟩ (by simp) rfl) rfl; exact AnyOrder.step_value rfl (AnyOrder.wanted_none rfl) (.int .i64 (c.get K)) (by generalize a1.eval = ρ at ec ef e0 ⊢; simp [execOp, ec, ef, e0, IntWalk.i64_left, go_sem]) st.inv (Below.refl _ _) rfl)
        | n + 9, ho => exact absurd hin (by omega)
      · intro V9 hJ
        simp only [AnyOrder.finK, List.take_succ_cons, List.take_zero, List.drop_succ_cons, List.drop_zero, Act.put, List.setIfInBounds_toArray, List.set_cons_zero, List.set_cons_succ]
        have HA9 := Lib.hid (HA.out.step hJ)
        have HC9 := Lib.hid (HC.out.trans (hJ.mono HC.out.size))
        clear hJ HA HC
        go_wp2_with fail
        refine AnyOrder.region_store 11 [.eq (c.V), .eq (.int .i64 (j : Int)), .eq (ptr g5 j), .eq (.string (nm K)), .eq (.int .i64 (c.get K)), .eq (.int .i64 x), .eq (.tuple #[d.V, .bool true]), .eq (.tuple #[d.V, .bool true]), .eq (d.V), .eq (.bool true), .of (AnyOrder.Fresh V9 24 zc.cells)] (fun wx => Below V9.heap.size V9 wx) 9 41 7 50 9 49 24 (.tuple #[d.V, .bool true]) (.bool true) _ _ (by kernel_rfl) (by kernel_rfl) rfl (by kernel_rfl) rfl rfl (by decide) rfl rfl rfl rfl rfl (by decide) rfl rfl rfl (fun ρ w e => by simp [execOp, e, go_sem]) (below_drewN (Below.refl _ _) 1) (fun p w w2 hp _ hb v hv => by simp at hp; subst hp; exact AnyOrder.Fresh.keep hv hb) ?_ ?_
        · intro i o listed a1 w2 hin ho st hl hdep
          match i, ho with
          | 0, ho => (injection ho with ho; subst ho; have ec : ∀ v, a1.eval (.const v) = v := fun _ => rfl; have ef : ∀ f, a1.eval (.func f) = .func (.func f) #[] #[] := fun _ => rfl; have e0 : a1.eval (.tmp 2) = ptr w.heap.size 0 := st.old hl 2 (by kernel_rfl); exact AnyOrder.step_value rfl (AnyOrder.wanted_none rfl) (c.V) (run_load_cfg e0 (HA9.out.step st.inv)) st.inv (Below.refl _ _) rfl)
          | 1, ho => (injection ho with ho; subst ho; have ec : ∀ v, a1.eval (.const v) = v := fun _ => rfl; have ef : ∀ f, a1.eval (.func f) = .func (.func f) #[] #[] := fun _ => rfl; have e0 : a1.eval (.tmp 6) = .int .i64 (j : Int) := st.old hl 6 (by kernel_rfl); exact AnyOrder.step_value rfl (AnyOrder.wanted_none rfl) (.int .i64 (j : Int)) (AnyOrder.run_move e0) st.inv (Below.refl _ _) rfl)
          | 2, ho => (injection ho with ho; subst ho; have ec : ∀ v, a1.eval (.const v) = v := fun _ => rfl; have ef : ∀ f, a1.eval (.func f) = .func (.func f) #[] #[] := fun _ => rfl; have e0 : a1.eval (.tmp 5) = ptr g5 0 := st.old hl 5 (by kernel_rfl); have e1 : a1.eval (.tmp 43) = .int .i64 (j : Int) := st.done 1 43 (hdep ⟨1, .data⟩ (by simp) rfl) rfl; exact AnyOrder.step_value rfl (AnyOrder.wanted_none rfl) (ptr g5 j) (by generalize a1.eval = ρ at ec ef e0 e1 ⊢; simp [execOp, ec, ef, e0, e1, IntWalk.i64_left, b0, b1, go_sem]) st.inv (Below.refl _ _) rfl)
          | 3, ho => (injection ho with ho; subst ho; have ec : ∀ v, a1.eval (.const v) = v := fun _ => rfl; have ef : ∀ f, a1.eval (.func f) = .func (.func f) #[] #[] := fun _ => rfl; have e0 : a1.eval (.tmp 44) = ptr g5 j := st.done 2 44 (hdep ⟨2, .data⟩ (by simp) rfl) rfl; exact AnyOrder.step_value rfl (AnyOrder.wanted_none rfl) (.string (nm K)) (by generalize a1.eval = ρ at ec ef e0 ⊢; simp [execOp, ec, ef, e0, IntWalk.i64_left, HXJ.out _ (HC9.out.trans (st.inv.mono HC9.out.size)), go_sem]) st.inv (Below.refl _ _) rfl)
          | 4, ho => (injection ho with ho; subst ho; have ec : ∀ v, a1.eval (.const v) = v := fun _ => rfl; have ef : ∀ f, a1.eval (.func f) = .func (.func f) #[] #[] := fun _ => rfl; have e0 : a1.eval (.tmp 7) = .int .i64 (c.get K) := st.old hl 7 (by kernel_rfl); exact AnyOrder.step_value rfl (AnyOrder.wanted_none rfl) (.int .i64 (c.get K)) (AnyOrder.run_move e0) st.inv (Below.refl _ _) rfl)
          | 5, ho => (injection ho with ho; subst ho; have ec : ∀ v, a1.eval (.const v) = v := fun _ => rfl; have ef : ∀ f, a1.eval (.func f) = .func (.func f) #[] #[] := fun _ => rfl; have e0 : a1.eval (.tmp 46) = .int .i64 (c.get K) := st.done 4 46 (hdep ⟨4, .data⟩ (by simp) rfl) rfl; exact AnyOrder.step_value rfl (AnyOrder.wanted_none rfl) (.int .i64 x) (by generalize a1.eval = ρ at ec ef e0 ⊢; simp [execOp, ec, ef, e0, IntWalk.i64_left, HINCJ.out, go_sem]) st.inv (Below.refl _ _) rfl)
          | 6, ho => (injection ho with ho; subst ho; have ec : ∀ v, a1.eval (.const v) = v := fun _ => rfl; have ef : ∀ f, a1.eval (.func f) = .func (.func f) #[] #[] := fun _ => rfl; have e0 : a1.eval (.tmp 42) = c.V := st.done 0 42 (hdep ⟨0, .data⟩ (by simp) rfl) rfl; have e1 : a1.eval (.tmp 45) = .string (nm K) := st.done 3 45 (hdep ⟨3, .data⟩ (by simp) rfl) rfl; have e2 : a1.eval (.tmp 47) = .int .i64 x := st.done 5 47 (hdep ⟨5, .data⟩ (by simp) rfl) rfl; exact AnyOrder.step_call rfl (AnyOrder.wanted_none rfl) 19 #[c.V, .string (nm K), .int .i64 x] (by generalize a1.eval = ρ at ec ef e0 e1 e2 ⊢; simp [execOp, ec, ef, e0, e1, e2, go_sem]) ((CSK.out _).mono (fun e w3 h => by obtain ⟨rfl, hb⟩ := h; exact ⟨_, rfl, st.inv.trans (hb.mono st.inv.size), hb, rfl⟩)))
          | 7, ho => (injection ho with ho; subst ho; have ec : ∀ v, a1.eval (.const v) = v := fun _ => rfl; have ef : ∀ f, a1.eval (.func f) = .func (.func f) #[] #[] := fun _ => rfl; have e0 : a1.eval (.tmp 48) = .tuple #[d.V, .bool true] := st.done 6 48 (hdep ⟨6, .data⟩ (by simp) rfl) rfl; exact AnyOrder.step_value rfl (AnyOrder.wanted_none rfl) (.tuple #[d.V, .bool true]) (AnyOrder.run_move e0) st.inv (Below.refl _ _) rfl)
          | 8, ho => (injection ho with ho; subst ho; have ec : ∀ v, a1.eval (.const v) = v := fun _ => rfl; have ef : ∀ f, a1.eval (.func f) = .func (.func f) #[] #[] := fun _ => rfl; have e0 : a1.eval (.tmp 41) = .tuple #[d.V, .bool true] := st.done 7 41 (hdep ⟨7, .data⟩ (by simp) rfl) rfl; exact AnyOrder.step_value rfl (AnyOrder.wanted_none rfl) (d.V) (by generalize a1.eval = ρ at ec ef e0 ⊢; simp [execOp, ec, ef, e0, IntWalk.i64_left, go_sem]) st.inv (Below.refl _ _) rfl)
          | 9, ho => (injection ho with ho; subst ho; have ec : ∀ v, a1.eval (.const v) = v := fun _ => rfl; have ef : ∀ f, a1.eval (.func f) = .func (.func f) #[] #[] := fun _ => rfl; have e0 : a1.eval (.tmp 41) = .tuple #[d.V, .bool true] := st.done 7 41 (hdep ⟨7, .data⟩ (by simp) rfl) rfl; exact AnyOrder.step_value rfl (AnyOrder.wanted_none rfl) (.bool true) (by generalize a1.eval = ρ at ec ef e0 ⊢; simp [execOp, ec, ef, e0, IntWalk.i64_left, go_sem]) st.inv (Below.refl _ _) rfl)
          | 10, ho => (injection ho with ho; subst ho; have ec : ∀ v, a1.eval (.const v) = v := fun _ => rfl; have ef : ∀ f, a1.eval (.func f) = .func (.func f) #[] #[] := fun _ => rfl; exact AnyOrder.step_value rfl (AnyOrder.wanted_none rfl) (ptr w2.heap.size 0) run_alloc24 (st.inv.alloc st.inv.size _) (below_new _ _) ⟨_, rfl, st.inv.size, by simp, heap_alloc_new _ _⟩)
          | n + 11, ho => exact absurd hin (by omega)
        · intro V10 hJ
          simp only [AnyOrder.finK, List.take_succ_cons, List.take_zero, List.drop_succ_cons, List.drop_zero, Act.put, List.setIfInBounds_toArray, List.set_cons_zero, List.set_cons_succ]
          rintro v ⟨q9, rfl, hq1, hq2, hq3⟩
          refine ⟨V10.setRow q9 d.cells, run_store_cfg rfl rfl hq3, ?_⟩
          have hbel : Below V9.heap.size V9 (V10.setRow q9 d.cells) := below_setRow hJ hq1 _
          have HA10 := Lib.hid (HA9.out.step hbel)
          have HD10 := Lib.hid (CAt.setRow (c := zc) hq3 d)
          have HC10 := Lib.hid (HC9.out.trans (hbel.mono HC9.out.size))
          obtain ⟨V11, hV11⟩ : ∃ V11, V10.setRow q9 d.cells = V11 := ⟨_, rfl⟩
          rw [hV11] at HA10 HD10 HC10 ⊢
          clear hV11 hbel hJ hq1 hq2 hq3 HA9 HC9
          cases hd : okc d
          · rw [chk_no hd] at C9D
            clear hd hgrow
            go_wp2_with fail
            refine AnyOrder.region_kinds2 10 [.eq (d.V), .eq (.int .i64 3), .eq (.bool false), .eq (.bool false), .eq (undef), .eq (undef), .eq (undef), .eq (undef), .eq (undef), .eq (.bool false)] (fun wx => Below V11.heap.size V11 wx) (by kernel_rfl) (by kernel_rfl) rfl (by kernel_rfl) (below_drewN (Below.refl _ _) 1) (fun p _ _ hp => by simp at hp) ?_ ?_
            · intro i o listed a1 w2 hin ho st hl hdep
              match i, ho with
              | 0, ho => (injection ho with ho; subst ho; have ec : ∀ v, a1.eval (.const v) = v := fun _ => rfl; have ef : ∀ f, a1.eval (.func f) = .func (.func f) #[] #[] := fun _ => rfl; have e0 : a1.eval (.tmp 9) = ptr q9 0 := st.old hl 9 (by kernel_rfl); exact AnyOrder.step_value rfl (AnyOrder.wanted_none rfl) (d.V) (run_load_cfg e0 (HD10.out.step st.inv)) st.inv (Below.refl _ _) rfl)
              | 1, ho => (injection ho with ho; subst ho; have ec : ∀ v, a1.eval (.const v) = v := fun _ => rfl; have ef : ∀ f, a1.eval (.func f) = .func (.func f) #[] #[] := fun _ => rfl; have e0 : a1.eval (.tmp 51) = d.V := st.done 0 51 (hdep ⟨0, .data⟩ (by simp) rfl) rfl; exact AnyOrder.step_call rfl (AnyOrder.wanted_none rfl) 9 #[d.V] (by generalize a1.eval = ρ at ec ef e0 ⊢; simp [execOp, ec, ef, e0, go_sem]) ((C9D.out _).mono (fun e w3 h => by obtain ⟨rfl, hb⟩ := h; exact ⟨_, rfl, st.inv.trans (hb.mono st.inv.size), hb, rfl⟩)))
              | 2, ho => (injection ho with ho; subst ho; have ec : ∀ v, a1.eval (.const v) = v := fun _ => rfl; have ef : ∀ f, a1.eval (.func f) = .func (.func f) #[] #[] := fun _ => rfl; have e0 : a1.eval (.tmp 52) = .int .i64 3 := st.done 1 52 (hdep ⟨1, .data⟩ (by simp) rfl) rfl; exact AnyOrder.step_value rfl (AnyOrder.wanted_none rfl) (.bool false) (by generalize a1.eval = ρ at ec ef e0 ⊢; simp [execOp, ec, ef, e0, IntWalk.i64_left, go_sem]) st.inv (Below.refl _ _) rfl)
              | 3, ho => (injection ho with ho; subst ho; have ec : ∀ v, a1.eval (.const v) = v := fun _ => rfl; have ef : ∀ f, a1.eval (.func f) = .func (.func f) #[] #[] := fun _ => rfl; have e0 : a1.eval (.tmp 53) = .bool false := st.done 2 53 (hdep ⟨2, .data⟩ (by simp) rfl) rfl; exact AnyOrder.step_value rfl (AnyOrder.wanted_none rfl) (.bool false) (AnyOrder.run_move e0) st.inv (Below.refl _ _) rfl)
              | 4, ho => (injection ho with ho; subst ho; have ec : ∀ v, a1.eval (.const v) = v := fun _ => rfl; have ef : ∀ f, a1.eval (.func f) = .func (.func f) #[] #[] := fun _ => rfl; have eg : a1.eval (.tmp 54) = .bool false := st.done 3 54 (hdep ⟨3, .guard⟩ (by simp) rfl) rfl; exact AnyOrder.step_skip rfl ((AnyOrder.wanted_of rfl rfl eg).trans rfl) st.inv rfl)
              | 5, ho => (injection ho with ho; subst ho; have ec : ∀ v, a1.eval (.const v) = v := fun _ => rfl; have ef : ∀ f, a1.eval (.func f) = .func (.func f) #[] #[] := fun _ => rfl; have eg : a1.eval (.tmp 54) = .bool false := st.done 3 54 (hdep ⟨3, .chain⟩ (by simp) rfl) rfl; exact AnyOrder.step_skip rfl ((AnyOrder.wanted_of rfl rfl eg).trans rfl) st.inv rfl)
              | 6, ho => (injection ho with ho; subst ho; have ec : ∀ v, a1.eval (.const v) = v := fun _ => rfl; have ef : ∀ f, a1.eval (.func f) = .func (.func f) #[] #[] := fun _ => rfl; have eg : a1.eval (.tmp 54) = .bool false := st.done 3 54 (hdep ⟨3, .guard⟩ (by simp) rfl) rfl; exact AnyOrder.step_skip rfl ((AnyOrder.wanted_of rfl rfl eg).trans rfl) st.inv rfl)
              | 7, ho => (injection ho with ho; subst ho; have ec : ∀ v, a1.eval (.const v) = v := fun _ => rfl; have ef : ∀ f, a1.eval (.func f) = .func (.func f) #[] #[] := fun _ => rfl; have eg : a1.eval (.tmp 54) = .bool false := st.done 3 54 (hdep ⟨3, .guard⟩ (by simp) rfl) rfl; exact AnyOrder.step_skip rfl ((AnyOrder.wanted_of rfl rfl eg).trans rfl) st.inv rfl)
              | 8, ho => (injection ho with ho; subst ho; have ec : ∀ v, a1.eval (.const v) = v := fun _ => rfl; have ef : ∀ f, a1.eval (.func f) = .func (.func f) #[] #[] := fun _ => rfl; have eg : a1.eval (.tmp 54) = .bool false := st.done 3 54 (hdep ⟨3, .guard⟩ (by simp) rfl) rfl; exact AnyOrder.step_skip rfl ((AnyOrder.wanted_of rfl rfl eg).trans rfl) st.inv rfl)
              | 9, ho => (injection ho with ho; subst ho; have ec : ∀ v, a1.eval (.const v) = v := fun _ => rfl; have ef : ∀ f, a1.eval (.func f) = .func (.func f) #[] #[] := fun _ => rfl; have e0 : a1.eval (.tmp 54) = .bool false := st.done 3 54 (hdep ⟨3, .data⟩ (by simp) rfl) rfl; have e1 : a1.eval (.tmp 59) = undef := st.done 8 59 (hdep ⟨8, .data⟩ (by simp) rfl) rfl; exact AnyOrder.step_value rfl (AnyOrder.wanted_none rfl) (.bool false) (by generalize a1.eval = ρ at ec ef e0 e1 ⊢; simp [execOp, ec, ef, e0, e1, IntWalk.i64_left, go_sem]) st.inv (Below.refl _ _) rfl)
              | n + 10, ho => exact absurd hin (by omega)
            · intro V12 hJ
              simp only [AnyOrder.finK, List.take_succ_cons, List.take_zero, List.drop_succ_cons, List.drop_zero, Act.put, List.setIfInBounds_toArray, List.set_cons_zero, List.set_cons_succ]
              go_wp2_with fail
              go_roundg (4 - (j + 1))
              case measure => have := HG.out; omega
              case rel => exact ⟨j + 1, by omega, rfl, by go_num, HC10.out.trans (hJ.mono HC10.out.size)⟩
          · rw [chk_ok hd] at C9D
            have hle : ¬ rid d ≤ rid c := by have := hgrow hd; omega
            clear hd hgrow
            go_wp2_with fail
            refine AnyOrder.region_kinds2 10 [.eq (d.V), .eq (.int .i64 0), .eq (.bool true), .eq (.bool true), .eq (d.V), .eq (.int .i64 (rid d)), .eq (c.V), .eq (.int .i64 (rid c)), .eq (.bool false), .eq (.bool false)] (fun wx => Below V11.heap.size V11 wx) (by kernel_rfl) (by kernel_rfl) rfl (by kernel_rfl) (below_drewN (Below.refl _ _) 1) (fun p _ _ hp => by simp at hp) ?_ ?_
            · intro i o listed a1 w2 hin ho st hl hdep
              match i, ho with
              | 0, ho => (injection ho with ho; subst ho; have ec : ∀ v, a1.eval (.const v) = v := fun _ => rfl; have ef : ∀ f, a1.eval (.func f) = .func (.func f) #[] #[] := fun _ => rfl; have e0 : a1.eval (.tmp 9) = ptr q9 0 := st.old hl 9 (by kernel_rfl); exact AnyOrder.step_value rfl (AnyOrder.wanted_none rfl) (d.V) (run_load_cfg e0 (HD10.out.step st.inv)) st.inv (Below.refl _ _) rfl)
              | 1, ho => (injection ho with ho; subst ho; have ec : ∀ v, a1.eval (.const v) = v := fun _ => rfl; have ef : ∀ f, a1.eval (.func f) = .func (.func f) #[] #[] := fun _ => rfl; have e0 : a1.eval (.tmp 51) = d.V := st.done 0 51 (hdep ⟨0, .data⟩ (by simp) rfl) rfl; exact AnyOrder.step_call rfl (AnyOrder.wanted_none rfl) 9 #[d.V] (by generalize a1.eval = ρ at ec ef e0 ⊢; simp [execOp, ec, ef, e0, go_sem]) ((C9D.out _).mono (fun e w3 h => by obtain ⟨rfl, hb⟩ := h; exact ⟨_, rfl, st.inv.trans (hb.mono st.inv.size), hb, rfl⟩)))
              | 2, ho => (injection ho with ho; subst ho; have ec : ∀ v, a1.eval (.const v) = v := fun _ => rfl; have ef : ∀ f, a1.eval (.func f) = .func (.func f) #[] #[] := fun _ => rfl; have e0 : a1.eval (.tmp 52) = .int .i64 0 := st.done 1 52 (hdep ⟨1, .data⟩ (by simp) rfl) rfl; exact AnyOrder.step_value rfl (AnyOrder.wanted_none rfl) (.bool true) (by generalize a1.eval = ρ at ec ef e0 ⊢; simp [execOp, ec, ef, e0, IntWalk.i64_left, go_sem]) st.inv (Below.refl _ _) rfl)
              | 3, ho => (injection ho with ho; subst ho; have ec : ∀ v, a1.eval (.const v) = v := fun _ => rfl; have ef : ∀ f, a1.eval (.func f) = .func (.func f) #[] #[] := fun _ => rfl; have e0 : a1.eval (.tmp 53) = .bool true := st.done 2 53 (hdep ⟨2, .data⟩ (by simp) rfl) rfl; exact AnyOrder.step_value rfl (AnyOrder.wanted_none rfl) (.bool true) (AnyOrder.run_move e0) st.inv (Below.refl _ _) rfl)
              | 4, ho => (injection ho with ho; subst ho; have ec : ∀ v, a1.eval (.const v) = v := fun _ => rfl; have ef : ∀ f, a1.eval (.func f) = .func (.func f) #[] #[] := fun _ => rfl; have e0 : a1.eval (.tmp 9) = ptr q9 0 := st.old hl 9 (by kernel_rfl); have eg : a1.eval (.tmp 54) = .bool true := st.done 3 54 (hdep ⟨3, .guard⟩ (by simp) rfl) rfl; exact AnyOrder.step_value rfl ((AnyOrder.wanted_of rfl rfl eg).trans rfl) (d.V) (run_load_cfg e0 (HD10.out.step st.inv)) st.inv (Below.refl _ _) rfl)
              | 5, ho => (injection ho with ho; subst ho; have ec : ∀ v, a1.eval (.const v) = v := fun _ => rfl; have ef : ∀ f, a1.eval (.func f) = .func (.func f) #[] #[] := fun _ => rfl; have e0 : a1.eval (.tmp 55) = d.V := st.done 4 55 (hdep ⟨4, .data⟩ (by simp) rfl) rfl; have eg : a1.eval (.tmp 54) = .bool true := st.done 3 54 (hdep ⟨3, .chain⟩ (by simp) rfl) rfl; exact AnyOrder.step_call rfl ((AnyOrder.wanted_of rfl rfl eg).trans rfl) 12 #[d.V] (by generalize a1.eval = ρ at ec ef e0 ⊢; simp [execOp, ec, ef, e0, go_sem]) ((CD.out _).mono (fun e w3 h => by obtain ⟨rfl, hb⟩ := h; exact ⟨_, rfl, st.inv.trans (hb.mono st.inv.size), hb, rfl⟩)))
              | 6, ho => (injection ho with ho; subst ho; have ec : ∀ v, a1.eval (.const v) = v := fun _ => rfl; have ef : ∀ f, a1.eval (.func f) = .func (.func f) #[] #[] := fun _ => rfl; have e0 : a1.eval (.tmp 2) = ptr w.heap.size 0 := st.old hl 2 (by kernel_rfl); have eg : a1.eval (.tmp 54) = .bool true := st.done 3 54 (hdep ⟨3, .guard⟩ (by simp) rfl) rfl; exact AnyOrder.step_value rfl ((AnyOrder.wanted_of rfl rfl eg).trans rfl) (c.V) (run_load_cfg e0 (HA10.out.step st.inv)) st.inv (Below.refl _ _) rfl)
              | 7, ho => (injection ho with ho; subst ho; have ec : ∀ v, a1.eval (.const v) = v := fun _ => rfl; have ef : ∀ f, a1.eval (.func f) = .func (.func f) #[] #[] := fun _ => rfl; have e0 : a1.eval (.tmp 57) = c.V := st.done 6 57 (hdep ⟨6, .data⟩ (by simp) rfl) rfl; have eg : a1.eval (.tmp 54) = .bool true := st.done 3 54 (hdep ⟨3, .guard⟩ (by simp) rfl) rfl; exact AnyOrder.step_call rfl ((AnyOrder.wanted_of rfl rfl eg).trans rfl) 12 #[c.V] (by generalize a1.eval = ρ at ec ef e0 ⊢; simp [execOp, ec, ef, e0, go_sem]) ((CC.out _).mono (fun e w3 h => by obtain ⟨rfl, hb⟩ := h; exact ⟨_, rfl, st.inv.trans (hb.mono st.inv.size), hb, rfl⟩)))
              | 8, ho => (injection ho with ho; subst ho; have ec : ∀ v, a1.eval (.const v) = v := fun _ => rfl; have ef : ∀ f, a1.eval (.func f) = .func (.func f) #[] #[] := fun _ => rfl; have e0 : a1.eval (.tmp 56) = .int .i64 (rid d) := st.done 5 56 (hdep ⟨5, .data⟩ (by simp) rfl) rfl; have e1 : a1.eval (.tmp 58) = .int .i64 (rid c) := st.done 7 58 (hdep ⟨7, .data⟩ (by simp) rfl) rfl; have eg : a1.eval (.tmp 54) = .bool true := st.done 3 54 (hdep ⟨3, .guard⟩ (by simp) rfl) rfl; exact AnyOrder.step_value rfl ((AnyOrder.wanted_of rfl rfl eg).trans rfl) (.bool false) (by generalize a1.eval = ρ at ec ef e0 e1 ⊢; simp [execOp, ec, ef, e0, e1, IntWalk.i64_left, hle, go_sem]) st.inv (Below.refl _ _) rfl)
              | 9, ho => (injection ho with ho; subst ho; have ec : ∀ v, a1.eval (.const v) = v := fun _ => rfl; have ef : ∀ f, a1.eval (.func f) = .func (.func f) #[] #[] := fun _ => rfl; have e0 : a1.eval (.tmp 54) = .bool true := st.done 3 54 (hdep ⟨3, .data⟩ (by simp) rfl) rfl; have e1 : a1.eval (.tmp 59) = .bool false := st.done 8 59 (hdep ⟨8, .data⟩ (by simp) rfl) rfl; exact AnyOrder.step_value rfl (AnyOrder.wanted_none rfl) (.bool false) (by generalize a1.eval = ρ at ec ef e0 e1 ⊢; simp [execOp, ec, ef, e0, e1, IntWalk.i64_left, go_sem]) st.inv (Below.refl _ _) rfl)
              | n + 10, ho => exact absurd hin (by omega)
            · intro V12 hJ
              simp only [AnyOrder.finK, List.take_succ_cons, List.take_zero, List.drop_succ_cons, List.drop_zero, Act.put, List.setIfInBounds_toArray, List.set_cons_zero, List.set_cons_succ]
              go_wp2_with fail
              go_roundg (4 - (j + 1))
              case measure => have := HG.out; omega
              case rel => exact ⟨j + 1, by omega, rfl, by go_num, HC10.out.trans (hJ.mono HC10.out.size)⟩
    · obtain rfl : j = 4 := by omega
      go_upto_region 14 with fail
      have hn := below_new wr (.cells waits 44)
      have HA13 := Lib.hid ((HA5.out _ HC.out).step hn).all
      have HX13 := Lib.hid (fun W (hb : Below (wr.alloc (.cells waits 44)).heap.size (wr.alloc (.cells waits 44)) W) j (hj : j < 3) => show W.cell? ⟨wr.heap.size, j, none⟩ = some (.string (nm (waitK j))) by
        have := At.below (At.new wr 44 waits) hb (At.lt (At.new wr 44 waits))
        rw [this.cell, waits_at j hj])
      have HB13 := Lib.hid ((HB5.out.trans (HC.out.mono HB5.out.size)).trans (hn.mono (Nat.le_trans HB5.out.size HC.out.size)))
      unfold waits at HA13 HX13 HB13
      obtain ⟨W13, hW13⟩ : ∃ W13, wr.alloc (.cells #[.string ⟨#[114, 101, 116, 114, 105, 101, 115]⟩, .string ⟨#[105, 110]⟩, .string ⟨#[111, 117, 116]⟩] 44) = W13 := ⟨_, rfl⟩
      rw [hW13] at HA13 HX13 HB13 ⊢
      clear hW13 hn HA5 HB5 HX5 HC HG hlt hj
      generalize wr.heap.size = g11 at *
      go_wp2_with fail
      go_loopg [12] 3 (fun gh s12 wx => ∃ j : Nat, j ≤ 3 ∧ gh = 3 - j ∧ s12 = .int .i64 (j : Int) ∧ Below W13.heap.size W13 wx)
      case atStart => exact ⟨0, Nat.zero_le _, rfl, rfl, Below.refl _ _⟩
      case round =>
        obtain ⟨j, hj, hgh, rfl, hcur⟩ := hrel
        have HG := Lib.hid hgh; have HC := Lib.hid hcur; clear hgh hcur
        by_cases hlt : j < 3
        · have hK := waitK_lt j hlt
          have hKi := waitK_in j hlt
          have HXJ := Lib.hid (fun W hb => HX13.out W hb j hlt)
          generalize waitK j = K at hK hKi HXJ
          have b0 : (0 : Int) ≤ (j : Int) := by omega
          have b1 : (j : Int) < 3 := by omega
          have hinc := HINC.out K hK
          have CGK := Lib.hid (CG.out K hK)
          have CSK := Lib.hid (CS.out K hK (c.get K + 1))
          have hgrow := HAG.out K hKi
          have C9D := Lib.hid (fun W => C9.out (c.set K (c.get K + 1)) W)
          have CD := Lib.hid (fun W => C13.out (c.set K (c.get K + 1)) W)
          have CC := Lib.hid (fun W => C13.out c W)
          generalize c.set K (c.get K + 1) = d at hgrow CSK C9D CD
          generalize hx : c.get K + 1 = x at hinc CSK
          have HINCJ : Hid (wrap64 (c.get K + 1) = x) := Lib.hid (by rw [hx]; exact hinc)
          have HA := Lib.hid (HA13.out _ HC.out)
          clear hinc hx hKi hlt
          go_wp2_with fail
          refine AnyOrder.region_kinds2 9 [.eq (c.V), .eq (.int .i64 (j : Int)), .eq (ptr g11 j), .eq (.string (nm K)), .eq (.tuple #[.int .i64 (c.get K), .bool true]), .eq (.tuple #[.int .i64 (c.get K), .bool true]), .eq (.int .i64 (c.get K)), .eq (.bool true), .eq (.int .i64 (c.get K))] (fun wx => Below wr.heap.size wr wx) (by kernel_rfl) (by kernel_rfl) rfl (by kernel_rfl) (below_drewN (Below.refl _ _) 1) (fun p _ _ hp => by simp at hp) ?_ ?_
          · intro i o listed a1 w2 hin ho st hl hdep
            match i, ho with
            | 0, ho => (injection ho with ho; subst ho; have ec : ∀ v, a1.eval (.const v) = v := fun _ => rfl; have ef : ∀ f, a1.eval (.func f) = .func (.func f) #[] #[] := fun _ => rfl; have e0 : a1.eval (.tmp 2) = ptr w.heap.size 0 := st.old hl 2 (by kernel_rfl); exact AnyOrder.step_value rfl (AnyOrder.wanted_none rfl) (c.V) (run_load_cfg e0 (HA.out.step st.inv)) st.inv (Below.refl _ _) rfl)
            | 1, ho => (injection ho with ho; subst ho; have ec : ∀ v, a1.eval (.const v) = v := fun _ => rfl; have ef : ∀ f, a1.eval (.func f) = .func (.func f) #[] #[] := fun _ => rfl; have e0 : a1.eval (.tmp 12) = .int .i64 (j : Int) := st.old hl 12 (by kernel_rfl); exact AnyOrder.step_value rfl (AnyOrder.wanted_none rfl) (.int .i64 (j : Int)) (AnyOrder.run_move e0) st.inv (Below.refl _ _) rfl)
            | 2, ho => (injection ho with ho; subst ho; have ec : ∀ v, a1.eval (.const v) = v := fun _ => rfl; have ef : ∀ f, a1.eval (.func f) = .func (.func f) #[] #[] := fun _ => rfl; have e0 : a1.eval (.tmp 11) = ptr g11 0 := st.old hl 11 (by kernel_rfl); have e1 : a1.eval (.tmp 68) = .int .i64 (j : Int) := st.done 1 68 (hdep ⟨1, .data⟩ (by simp) rfl) rfl; exact AnyOrder.step_value rfl (AnyOrder.wanted_none rfl) (ptr g11 j) (by generalize a1.eval = ρ at ec ef e0 e1 ⊢; simp [execOp, ec, ef, e0, e1, IntWalk.i64_left, b0, b1, go_sem]) st.inv (Below.refl _ _) rfl)
            | 3, ho => (injection ho with ho; subst ho; have ec : ∀ v, a1.eval (.const v) = v := fun _ => rfl; have ef : ∀ f, a1.eval (.func f) = .func (.func f) #[] #[] := fun _ => rfl; have e0 : a1.eval (.tmp 69) = ptr g11 j := st.done 2 69 (hdep ⟨2, .data⟩ (by simp) rfl) rfl; exact AnyOrder.step_value rfl (AnyOrder.wanted_none rfl) (.string (nm K)) (by generalize a1.eval = ρ at ec ef e0 ⊢; simp [execOp, ec, ef, e0, IntWalk.i64_left, HXJ.out _ (HC.out.trans (st.inv.mono HC.out.size)), go_sem]) st.inv (Below.refl _ _) rfl)
            | 4, ho => (injection ho with ho; subst ho; have ec : ∀ v, a1.eval (.const v) = v := fun _ => rfl; have ef : ∀ f, a1.eval (.func f) = .func (.func f) #[] #[] := fun _ => rfl; have e0 : a1.eval (.tmp 67) = c.V := st.done 0 67 (hdep ⟨0, .data⟩ (by simp) rfl) rfl; have e1 : a1.eval (.tmp 70) = .string (nm K) := st.done 3 70 (hdep ⟨3, .data⟩ (by simp) rfl) rfl; exact AnyOrder.step_call rfl (AnyOrder.wanted_none rfl) 18 #[c.V, .string (nm K)] (by generalize a1.eval = ρ at ec ef e0 e1 ⊢; simp [execOp, ec, ef, e0, e1, go_sem]) ((CGK.out _).mono (fun e w3 h => by obtain ⟨rfl, hb⟩ := h; exact ⟨_, rfl, st.inv.trans (hb.mono st.inv.size), hb, rfl⟩)))
            | 5, ho => (injection ho with ho; subst ho; have ec : ∀ v, a1.eval (.const v) = v := fun _ => rfl; have ef : ∀ f, a1.eval (.func f) = .func (.func f) #[] #[] := fun _ => rfl; have e0 : a1.eval (.tmp 71) = .tuple #[.int .i64 (c.get K), .bool true] := st.done 4 71 (hdep ⟨4, .data⟩ (by simp) rfl) rfl; exact AnyOrder.step_value rfl (AnyOrder.wanted_none rfl) (.tuple #[.int .i64 (c.get K), .bool true]) (AnyOrder.run_move e0) st.inv (Below.refl _ _) rfl)
            | 6, ho => (injection ho with ho; subst ho; have ec : ∀ v, a1.eval (.const v) = v := fun _ => rfl; have ef : ∀ f, a1.eval (.func f) = .func (.func f) #[] #[] := fun _ => rfl; have e0 : a1.eval (.tmp 66) = .tuple #[.int .i64 (c.get K), .bool true] := st.done 5 66 (hdep ⟨5, .data⟩ (by simp) rfl) rfl; exact AnyOrder.step_value rfl (AnyOrder.wanted_none rfl) (.int .i64 (c.get K)) (by generalize a1.eval = ρ at ec ef e0 ⊢; simp [execOp, ec, ef, e0, IntWalk.i64_left, go_sem]) st.inv (Below.refl _ _) rfl)
            | 7, ho => (injection ho with ho; subst ho; have ec : ∀ v, a1.eval (.const v) = v := fun _ => rfl; have ef : ∀ f, a1.eval (.func f) = .func (.func f) #[] #[] := fun _ => rfl; have e0 : a1.eval (.tmp 66) = .tuple #[.int .i64 (c.get K), .bool true] := st.done 5 66 (hdep ⟨5, .data⟩ (by simp) rfl) rfl; exact AnyOrder.step_value rfl (AnyOrder.wanted_none rfl) (.bool true) (by generalize a1.eval = ρ at ec ef e0 ⊢; simp [execOp, ec, ef, e0, IntWalk.i64_left, go_sem]) st.inv (Below.refl _ _) rfl)
            | 8, ho => (injection ho with ho; subst ho; have ec : ∀ v, a1.eval (.const v) = v := fun _ => rfl; have ef : ∀ f, a1.eval (.func f) = .func (.func f) #[] #[] := fun _ => rfl; have e0 : a1.eval (.tmp 72) = .int .i64 (c.get K) := st.done 6 72 (hdep ⟨6, .data⟩ (by simp) rfl) rfl; exact AnyOrder.step_value rfl (AnyOrder.wanted_none rfl) (.int .i64 (c.get K)) (by generalize a1.eval = ρ at ec ef e0 ⊢; simp [execOp, ec, ef, e0, IntWalk.i64_left, go_sem]) st.inv (Below.refl _ _) rfl)
            | n + 9, ho => exact absurd hin (by omega)
          · intro V9 hJ
            simp only [AnyOrder.finK, List.take_succ_cons, List.take_zero, List.drop_succ_cons, List.drop_zero, Act.put, List.setIfInBounds_toArray, List.set_cons_zero, List.set_cons_succ]
            have HA9 := Lib.hid (HA.out.step hJ)
            have HC9 := Lib.hid (HC.out.trans (hJ.mono HC.out.size))
            clear hJ HA HC
            go_wp2_with fail
            refine AnyOrder.region_store 11 [.eq (c.V), .eq (.int .i64 (j : Int)), .eq (ptr g11 j), .eq (.string (nm K)), .eq (.int .i64 (c.get K)), .eq (.int .i64 x), .eq (.tuple #[d.V, .bool true]), .eq (.tuple #[d.V, .bool true]), .eq (d.V), .eq (.bool true), .of (AnyOrder.Fresh V9 24 zc.cells)] (fun wx => Below V9.heap.size V9 wx) 9 74 7 83 15 82 24 (.tuple #[d.V, .bool true]) (.bool true) _ _ (by kernel_rfl) (by kernel_rfl) rfl (by kernel_rfl) rfl rfl (by decide) rfl rfl rfl rfl rfl (by decide) rfl rfl rfl (fun ρ w e => by simp [execOp, e, go_sem]) (below_drewN (Below.refl _ _) 1) (fun p w w2 hp _ hb v hv => by simp at hp; subst hp; exact AnyOrder.Fresh.keep hv hb) ?_ ?_
            · intro i o listed a1 w2 hin ho st hl hdep
              match i, ho with
              | 0, ho => (injection ho with ho; subst ho; have ec : ∀ v, a1.eval (.const v) = v := fun _ => rfl; have ef : ∀ f, a1.eval (.func f) = .func (.func f) #[] #[] := fun _ => rfl; have e0 : a1.eval (.tmp 2) = ptr w.heap.size 0 := st.old hl 2 (by kernel_rfl); exact AnyOrder.step_value rfl (AnyOrder.wanted_none rfl) (c.V) (run_load_cfg e0 (HA9.out.step st.inv)) st.inv (Below.refl _ _) rfl)
              | 1, ho => (injection ho with ho; subst ho; have ec : ∀ v, a1.eval (.const v) = v := fun _ => rfl; have ef : ∀ f, a1.eval (.func f) = .func (.func f) #[] #[] := fun _ => rfl; have e0 : a1.eval (.tmp 12) = .int .i64 (j : Int) := st.old hl 12 (by kernel_rfl); exact AnyOrder.step_value rfl (AnyOrder.wanted_none rfl) (.int .i64 (j : Int)) (AnyOrder.run_move e0) st.inv (Below.refl _ _) rfl)
              | 2, ho => (injection ho with ho; subst ho; have ec : ∀ v, a1.eval (.const v) = v := fun _ => rfl; have ef : ∀ f, a1.eval (.func f) = .func (.func f) #[] #[] := fun _ => rfl; have e0 : a1.eval (.tmp 11) = ptr g11 0 := st.old hl 11 (by kernel_rfl); have e1 : a1.eval (.tmp 76) = .int .i64 (j : Int) := st.done 1 76 (hdep ⟨1, .data⟩ (by simp) rfl) rfl; exact AnyOrder.step_value rfl (AnyOrder.wanted_none rfl) (ptr g11 j) (by generalize a1.eval = ρ at ec ef e0 e1 ⊢; simp [execOp, ec, ef, e0, e1, IntWalk.i64_left, b0, b1, go_sem]) st.inv (Below.refl _ _) rfl)
              | 3, ho => (injection ho with ho; subst ho; have ec : ∀ v, a1.eval (.const v) = v := fun _ => rfl; have ef : ∀ f, a1.eval (.func f) = .func (.func f) #[] #[] := fun _ => rfl; have e0 : a1.eval (.tmp 77) = ptr g11 j := st.done 2 77 (hdep ⟨2, .data⟩ (by simp) rfl) rfl; exact AnyOrder.step_value rfl (AnyOrder.wanted_none rfl) (.string (nm K)) (by generalize a1.eval = ρ at ec ef e0 ⊢; simp [execOp, ec, ef, e0, IntWalk.i64_left, HXJ.out _ (HC9.out.trans (st.inv.mono HC9.out.size)), go_sem]) st.inv (Below.refl _ _) rfl)
              | 4, ho => (injection ho with ho; subst ho; have ec : ∀ v, a1.eval (.const v) = v := fun _ => rfl; have ef : ∀ f, a1.eval (.func f) = .func (.func f) #[] #[] := fun _ => rfl; have e0 : a1.eval (.tmp 13) = .int .i64 (c.get K) := st.old hl 13 (by kernel_rfl); exact AnyOrder.step_value rfl (AnyOrder.wanted_none rfl) (.int .i64 (c.get K)) (AnyOrder.run_move e0) st.inv (Below.refl _ _) rfl)
              | 5, ho => (injection ho with ho; subst ho; have ec : ∀ v, a1.eval (.const v) = v := fun _ => rfl; have ef : ∀ f, a1.eval (.func f) = .func (.func f) #[] #[] := fun _ => rfl; have e0 : a1.eval (.tmp 79) = .int .i64 (c.get K) := st.done 4 79 (hdep ⟨4, .data⟩ (by simp) rfl) rfl; exact AnyOrder.step_value rfl (AnyOrder.wanted_none rfl) (.int .i64 x) (by generalize a1.eval = ρ at ec ef e0 ⊢; simp [execOp, ec, ef, e0, IntWalk.i64_left, HINCJ.out, go_sem]) st.inv (Below.refl _ _) rfl)
              | 6, ho => (injection ho with ho; subst ho; have ec : ∀ v, a1.eval (.const v) = v := fun _ => rfl; have ef : ∀ f, a1.eval (.func f) = .func (.func f) #[] #[] := fun _ => rfl; have e0 : a1.eval (.tmp 75) = c.V := st.done 0 75 (hdep ⟨0, .data⟩ (by simp) rfl) rfl; have e1 : a1.eval (.tmp 78) = .string (nm K) := st.done 3 78 (hdep ⟨3, .data⟩ (by simp) rfl) rfl; have e2 : a1.eval (.tmp 80) = .int .i64 x := st.done 5 80 (hdep ⟨5, .data⟩ (by simp) rfl) rfl; exact AnyOrder.step_call rfl (AnyOrder.wanted_none rfl) 19 #[c.V, .string (nm K), .int .i64 x] (by generalize a1.eval = ρ at ec ef e0 e1 e2 ⊢; simp [execOp, ec, ef, e0, e1, e2, go_sem]) ((CSK.out _).mono (fun e w3 h => by obtain ⟨rfl, hb⟩ := h; exact ⟨_, rfl, st.inv.trans (hb.mono st.inv.size), hb, rfl⟩)))
              | 7, ho => (injection ho with ho; subst ho; have ec : ∀ v, a1.eval (.const v) = v := fun _ => rfl; have ef : ∀ f, a1.eval (.func f) = .func (.func f) #[] #[] := fun _ => rfl; have e0 : a1.eval (.tmp 81) = .tuple #[d.V, .bool true] := st.done 6 81 (hdep ⟨6, .data⟩ (by simp) rfl) rfl; exact AnyOrder.step_value rfl (AnyOrder.wanted_none rfl) (.tuple #[d.V, .bool true]) (AnyOrder.run_move e0) st.inv (Below.refl _ _) rfl)
              | 8, ho => (injection ho with ho; subst ho; have ec : ∀ v, a1.eval (.const v) = v := fun _ => rfl; have ef : ∀ f, a1.eval (.func f) = .func (.func f) #[] #[] := fun _ => rfl; have e0 : a1.eval (.tmp 74) = .tuple #[d.V, .bool true] := st.done 7 74 (hdep ⟨7, .data⟩ (by simp) rfl) rfl; exact AnyOrder.step_value rfl (AnyOrder.wanted_none rfl) (d.V) (by generalize a1.eval = ρ at ec ef e0 ⊢; simp [execOp, ec, ef, e0, IntWalk.i64_left, go_sem]) st.inv (Below.refl _ _) rfl)
              | 9, ho => (injection ho with ho; subst ho; have ec : ∀ v, a1.eval (.const v) = v := fun _ => rfl; have ef : ∀ f, a1.eval (.func f) = .func (.func f) #[] #[] := fun _ => rfl; have e0 : a1.eval (.tmp 74) = .tuple #[d.V, .bool true] := st.done 7 74 (hdep ⟨7, .data⟩ (by simp) rfl) rfl; exact AnyOrder.step_value rfl (AnyOrder.wanted_none rfl) (.bool true) (by generalize a1.eval = ρ at ec ef e0 ⊢; simp [execOp, ec, ef, e0, IntWalk.i64_left, go_sem]) st.inv (Below.refl _ _) rfl)
              | 10, ho => (injection ho with ho; subst ho; have ec : ∀ v, a1.eval (.const v) = v := fun _ => rfl; have ef : ∀ f, a1.eval (.func f) = .func (.func f) #[] #[] := fun _ => rfl; exact AnyOrder.step_value rfl (AnyOrder.wanted_none rfl) (ptr w2.heap.size 0) run_alloc24 (st.inv.alloc st.inv.size _) (below_new _ _) ⟨_, rfl, st.inv.size, by simp, heap_alloc_new _ _⟩)
              | n + 11, ho => exact absurd hin (by omega)
            · intro V10 hJ
              simp only [AnyOrder.finK, List.take_succ_cons, List.take_zero, List.drop_succ_cons, List.drop_zero, Act.put, List.setIfInBounds_toArray, List.set_cons_zero, List.set_cons_succ]
              rintro v ⟨q9, rfl, hq1, hq2, hq3⟩
              refine ⟨V10.setRow q9 d.cells, run_store_cfg rfl rfl hq3, ?_⟩
              have hbel : Below V9.heap.size V9 (V10.setRow q9 d.cells) := below_setRow hJ hq1 _
              have HA10 := Lib.hid (HA9.out.step hbel)
              have HD10 := Lib.hid (CAt.setRow (c := zc) hq3 d)
              have HC10 := Lib.hid (HC9.out.trans (hbel.mono HC9.out.size))
              obtain ⟨V11, hV11⟩ : ∃ V11, V10.setRow q9 d.cells = V11 := ⟨_, rfl⟩
              rw [hV11] at HA10 HD10 HC10 ⊢
              clear hV11 hbel hJ hq1 hq2 hq3 HA9 HC9
              cases hd : okc d
              · rw [chk_no hd] at C9D
                clear hd hgrow
                go_wp2_with fail
                refine AnyOrder.region_kinds2 10 [.eq (d.V), .eq (.int .i64 3), .eq (.bool false), .eq (.bool false), .eq (undef), .eq (undef), .eq (undef), .eq (undef), .eq (undef), .eq (.bool false)] (fun wx => Below V11.heap.size V11 wx) (by kernel_rfl) (by kernel_rfl) rfl (by kernel_rfl) (below_drewN (Below.refl _ _) 1) (fun p _ _ hp => by simp at hp) ?_ ?_
                · intro i o listed a1 w2 hin ho st hl hdep
                  match i, ho with
                  | 0, ho => (injection ho with ho; subst ho; have ec : ∀ v, a1.eval (.const v) = v := fun _ => rfl; have ef : ∀ f, a1.eval (.func f) = .func (.func f) #[] #[] := fun _ => rfl; have e0 : a1.eval (.tmp 15) = ptr q9 0 := st.old hl 15 (by kernel_rfl); exact AnyOrder.step_value rfl (AnyOrder.wanted_none rfl) (d.V) (run_load_cfg e0 (HD10.out.step st.inv)) st.inv (Below.refl _ _) rfl)
                  | 1, ho => (injection ho with ho; subst ho; have ec : ∀ v, a1.eval (.const v) = v := fun _ => rfl; have ef : ∀ f, a1.eval (.func f) = .func (.func f) #[] #[] := fun _ => rfl; have e0 : a1.eval (.tmp 84) = d.V := st.done 0 84 (hdep ⟨0, .data⟩ (by simp) rfl) rfl; exact AnyOrder.step_call rfl (AnyOrder.wanted_none rfl) 9 #[d.V] (by generalize a1.eval = ρ at ec ef e0 ⊢; simp [execOp, ec, ef, e0, go_sem]) ((C9D.out _).mono (fun e w3 h => by obtain ⟨rfl, hb⟩ := h; exact ⟨_, rfl, st.inv.trans (hb.mono st.inv.size), hb, rfl⟩)))
                  | 2, ho => (injection ho with ho; subst ho; have ec : ∀ v, a1.eval (.const v) = v := fun _ => rfl; have ef : ∀ f, a1.eval (.func f) = .func (.func f) #[] #[] := fun _ => rfl; have e0 : a1.eval (.tmp 85) = .int .i64 3 := st.done 1 85 (hdep ⟨1, .data⟩ (by simp) rfl) rfl; exact AnyOrder.step_value rfl (AnyOrder.wanted_none rfl) (.bool false) (by generalize a1.eval = ρ at ec ef e0 ⊢; simp [execOp, ec, ef, e0, IntWalk.i64_left, go_sem]) st.inv (Below.refl _ _) rfl)
                  | 3, ho => (injection ho with ho; subst ho; have ec : ∀ v, a1.eval (.const v) = v := fun _ => rfl; have ef : ∀ f, a1.eval (.func f) = .func (.func f) #[] #[] := fun _ => rfl; have e0 : a1.eval (.tmp 86) = .bool false := st.done 2 86 (hdep ⟨2, .data⟩ (by simp) rfl) rfl; exact AnyOrder.step_value rfl (AnyOrder.wanted_none rfl) (.bool false) (AnyOrder.run_move e0) st.inv (Below.refl _ _) rfl)
                  | 4, ho => (injection ho with ho; subst ho; have ec : ∀ v, a1.eval (.const v) = v := fun _ => rfl; have ef : ∀ f, a1.eval (.func f) = .func (.func f) #[] #[] := fun _ => rfl; have eg : a1.eval (.tmp 87) = .bool false := st.done 3 87 (hdep ⟨3, .guard⟩ (by simp) rfl) rfl; exact AnyOrder.step_skip rfl ((AnyOrder.wanted_of rfl rfl eg).trans rfl) st.inv rfl)
                  | 5, ho => (injection ho with ho; subst ho; have ec : ∀ v, a1.eval (.const v) = v := fun _ => rfl; have ef : ∀ f, a1.eval (.func f) = .func (.func f) #[] #[] := fun _ => rfl; have eg : a1.eval (.tmp 87) = .bool false := st.done 3 87 (hdep ⟨3, .chain⟩ (by simp) rfl) rfl; exact AnyOrder.step_skip rfl ((AnyOrder.wanted_of rfl rfl eg).trans rfl) st.inv rfl)
                  | 6, ho => (injection ho with ho; subst ho; have ec : ∀ v, a1.eval (.const v) = v := fun _ => rfl; have ef : ∀ f, a1.eval (.func f) = .func (.func f) #[] #[] := fun _ => rfl; have eg : a1.eval (.tmp 87) = .bool false := st.done 3 87 (hdep ⟨3, .guard⟩ (by simp) rfl) rfl; exact AnyOrder.step_skip rfl ((AnyOrder.wanted_of rfl rfl eg).trans rfl) st.inv rfl)
                  | 7, ho => (injection ho with ho; subst ho; have ec : ∀ v, a1.eval (.const v) = v := fun _ => rfl; have ef : ∀ f, a1.eval (.func f) = .func (.func f) #[] #[] := fun _ => rfl; have eg : a1.eval (.tmp 87) = .bool false := st.done 3 87 (hdep ⟨3, .guard⟩ (by simp) rfl) rfl; exact AnyOrder.step_skip rfl ((AnyOrder.wanted_of rfl rfl eg).trans rfl) st.inv rfl)
                  | 8, ho => (injection ho with ho; subst ho; have ec : ∀ v, a1.eval (.const v) = v := fun _ => rfl; have ef : ∀ f, a1.eval (.func f) = .func (.func f) #[] #[] := fun _ => rfl; have eg : a1.eval (.tmp 87) = .bool false := st.done 3 87 (hdep ⟨3, .guard⟩ (by simp) rfl) rfl; exact AnyOrder.step_skip rfl ((AnyOrder.wanted_of rfl rfl eg).trans rfl) st.inv rfl)
                  | 9, ho => (injection ho with ho; subst ho; have ec : ∀ v, a1.eval (.const v) = v := fun _ => rfl; have ef : ∀ f, a1.eval (.func f) = .func (.func f) #[] #[] := fun _ => rfl; have e0 : a1.eval (.tmp 87) = .bool false := st.done 3 87 (hdep ⟨3, .data⟩ (by simp) rfl) rfl; have e1 : a1.eval (.tmp 92) = undef := st.done 8 92 (hdep ⟨8, .data⟩ (by simp) rfl) rfl; exact AnyOrder.step_value rfl (AnyOrder.wanted_none rfl) (.bool false) (by generalize a1.eval = ρ at ec ef e0 e1 ⊢; simp [execOp, ec, ef, e0, e1, IntWalk.i64_left, go_sem]) st.inv (Below.refl _ _) rfl)
                  | n + 10, ho => exact absurd hin (by omega)
                · intro V12 hJ
                  simp only [AnyOrder.finK, List.take_succ_cons, List.take_zero, List.drop_succ_cons, List.drop_zero, Act.put, List.setIfInBounds_toArray, List.set_cons_zero, List.set_cons_succ]
                  go_wp2_with fail
                  go_roundg (3 - (j + 1))
                  case measure => have := HG.out; omega
                  case rel => exact ⟨j + 1, by omega, rfl, by go_num, HC10.out.trans (hJ.mono HC10.out.size)⟩
              · rw [chk_ok hd] at C9D
                have hle : ¬ ans d ≤ ans c := by have := hgrow hd; omega
                clear hd hgrow
                go_wp2_with fail
                refine AnyOrder.region_kinds2 10 [.eq (d.V), .eq (.int .i64 0), .eq (.bool true), .eq (.bool true), .eq (d.V), .eq (.int .i64 (ans d)), .eq (c.V), .eq (.int .i64 (ans c)), .eq (.bool false), .eq (.bool false)] (fun wx => Below V11.heap.size V11 wx) (by kernel_rfl) (by kernel_rfl) rfl (by kernel_rfl) (below_drewN (Below.refl _ _) 1) (fun p _ _ hp => by simp at hp) ?_ ?_
                · intro i o listed a1 w2 hin ho st hl hdep
                  match i, ho with
                  | 0, ho => (injection ho with ho; subst ho; have ec : ∀ v, a1.eval (.const v) = v := fun _ => rfl; have ef : ∀ f, a1.eval (.func f) = .func (.func f) #[] #[] := fun _ => rfl; have e0 : a1.eval (.tmp 15) = ptr q9 0 := st.old hl 15 (by kernel_rfl); exact AnyOrder.step_value rfl (AnyOrder.wanted_none rfl) (d.V) (run_load_cfg e0 (HD10.out.step st.inv)) st.inv (Below.refl _ _) rfl)
                  | 1, ho => (injection ho with ho; subst ho; have ec : ∀ v, a1.eval (.const v) = v := fun _ => rfl; have ef : ∀ f, a1.eval (.func f) = .func (.func f) #[] #[] := fun _ => rfl; have e0 : a1.eval (.tmp 84) = d.V := st.done 0 84 (hdep ⟨0, .data⟩ (by simp) rfl) rfl; exact AnyOrder.step_call rfl (AnyOrder.wanted_none rfl) 9 #[d.V] (by generalize a1.eval = ρ at ec ef e0 ⊢; simp [execOp, ec, ef, e0, go_sem]) ((C9D.out _).mono (fun e w3 h => by obtain ⟨rfl, hb⟩ := h; exact ⟨_, rfl, st.inv.trans (hb.mono st.inv.size), hb, rfl⟩)))
                  | 2, ho => (injection ho with ho; subst ho; have ec : ∀ v, a1.eval (.const v) = v := fun _ => rfl; have ef : ∀ f, a1.eval (.func f) = .func (.func f) #[] #[] := fun _ => rfl; have e0 : a1.eval (.tmp 85) = .int .i64 0 := st.done 1 85 (hdep ⟨1, .data⟩ (by simp) rfl) rfl; exact AnyOrder.step_value rfl (AnyOrder.wanted_none rfl) (.bool true) (by generalize a1.eval = ρ at ec ef e0 ⊢; simp [execOp, ec, ef, e0, IntWalk.i64_left, go_sem]) st.inv (Below.refl _ _) rfl)
                  | 3, ho => (injection ho with ho; subst ho; have ec : ∀ v, a1.eval (.const v) = v := fun _ => rfl; have ef : ∀ f, a1.eval (.func f) = .func (.func f) #[] #[] := fun _ => rfl; have e0 : a1.eval (.tmp 86) = .bool true := st.done 2 86 (hdep ⟨2, .data⟩ (by simp) rfl) rfl; exact AnyOrder.step_value rfl (AnyOrder.wanted_none rfl) (.bool true) (AnyOrder.run_move e0) st.inv (Below.refl _ _) rfl)
                  | 4, ho => (injection ho with ho; subst ho; have ec : ∀ v, a1.eval (.const v) = v := fun _ => rfl; have ef : ∀ f, a1.eval (.func f) = .func (.func f) #[] #[] := fun _ => rfl; have e0 : a1.eval (.tmp 15) = ptr q9 0 := st.old hl 15 (by kernel_rfl); have eg : a1.eval (.tmp 87) = .bool true := st.done 3 87 (hdep ⟨3, .guard⟩ (by simp) rfl) rfl; exact AnyOrder.step_value rfl ((AnyOrder.wanted_of rfl rfl eg).trans rfl) (d.V) (run_load_cfg e0 (HD10.out.step st.inv)) st.inv (Below.refl _ _) rfl)
                  | 5, ho => (injection ho with ho; subst ho; have ec : ∀ v, a1.eval (.const v) = v := fun _ => rfl; have ef : ∀ f, a1.eval (.func f) = .func (.func f) #[] #[] := fun _ => rfl; have e0 : a1.eval (.tmp 88) = d.V := st.done 4 88 (hdep ⟨4, .data⟩ (by simp) rfl) rfl; have eg : a1.eval (.tmp 87) = .bool true := st.done 3 87 (hdep ⟨3, .chain⟩ (by simp) rfl) rfl; exact AnyOrder.step_call rfl ((AnyOrder.wanted_of rfl rfl eg).trans rfl) 13 #[d.V] (by generalize a1.eval = ρ at ec ef e0 ⊢; simp [execOp, ec, ef, e0, go_sem]) ((CD.out _).mono (fun e w3 h => by obtain ⟨rfl, hb⟩ := h; exact ⟨_, rfl, st.inv.trans (hb.mono st.inv.size), hb, rfl⟩)))
                  | 6, ho => (injection ho with ho; subst ho; have ec : ∀ v, a1.eval (.const v) = v := fun _ => rfl; have ef : ∀ f, a1.eval (.func f) = .func (.func f) #[] #[] := fun _ => rfl; have e0 : a1.eval (.tmp 2) = ptr w.heap.size 0 := st.old hl 2 (by kernel_rfl); have eg : a1.eval (.tmp 87) = .bool true := st.done 3 87 (hdep ⟨3, .guard⟩ (by simp) rfl) rfl; exact AnyOrder.step_value rfl ((AnyOrder.wanted_of rfl rfl eg).trans rfl) (c.V) (run_load_cfg e0 (HA10.out.step st.inv)) st.inv (Below.refl _ _) rfl)
                  | 7, ho => (injection ho with ho; subst ho; have ec : ∀ v, a1.eval (.const v) = v := fun _ => rfl; have ef : ∀ f, a1.eval (.func f) = .func (.func f) #[] #[] := fun _ => rfl; have e0 : a1.eval (.tmp 90) = c.V := st.done 6 90 (hdep ⟨6, .data⟩ (by simp) rfl) rfl; have eg : a1.eval (.tmp 87) = .bool true := st.done 3 87 (hdep ⟨3, .guard⟩ (by simp) rfl) rfl; exact AnyOrder.step_call rfl ((AnyOrder.wanted_of rfl rfl eg).trans rfl) 13 #[c.V] (by generalize a1.eval = ρ at ec ef e0 ⊢; simp [execOp, ec, ef, e0, go_sem]) ((CC.out _).mono (fun e w3 h => by obtain ⟨rfl, hb⟩ := h; exact ⟨_, rfl, st.inv.trans (hb.mono st.inv.size), hb, rfl⟩)))
                  | 8, ho => (injection ho with ho; subst ho; have ec : ∀ v, a1.eval (.const v) = v := fun _ => rfl; have ef : ∀ f, a1.eval (.func f) = .func (.func f) #[] #[] := fun _ => rfl; have e0 : a1.eval (.tmp 89) = .int .i64 (ans d) := st.done 5 89 (hdep ⟨5, .data⟩ (by simp) rfl) rfl; have e1 : a1.eval (.tmp 91) = .int .i64 (ans c) := st.done 7 91 (hdep ⟨7, .data⟩ (by simp) rfl) rfl; have eg : a1.eval (.tmp 87) = .bool true := st.done 3 87 (hdep ⟨3, .guard⟩ (by simp) rfl) rfl; exact AnyOrder.step_value rfl ((AnyOrder.wanted_of rfl rfl eg).trans rfl) (.bool false) (by generalize a1.eval = ρ at ec ef e0 e1 ⊢; simp [execOp, ec, ef, e0, e1, IntWalk.i64_left, hle, go_sem]) st.inv (Below.refl _ _) rfl)
                  | 9, ho => (injection ho with ho; subst ho; have ec : ∀ v, a1.eval (.const v) = v := fun _ => rfl; have ef : ∀ f, a1.eval (.func f) = .func (.func f) #[] #[] := fun _ => rfl; have e0 : a1.eval (.tmp 87) = .bool true := st.done 3 87 (hdep ⟨3, .data⟩ (by simp) rfl) rfl; have e1 : a1.eval (.tmp 92) = .bool false := st.done 8 92 (hdep ⟨8, .data⟩ (by simp) rfl) rfl; exact AnyOrder.step_value rfl (AnyOrder.wanted_none rfl) (.bool false) (by generalize a1.eval = ρ at ec ef e0 e1 ⊢; simp [execOp, ec, ef, e0, e1, IntWalk.i64_left, go_sem]) st.inv (Below.refl _ _) rfl)
                  | n + 10, ho => exact absurd hin (by omega)
                · intro V12 hJ
                  simp only [AnyOrder.finK, List.take_succ_cons, List.take_zero, List.drop_succ_cons, List.drop_zero, Act.put, List.setIfInBounds_toArray, List.set_cons_zero, List.set_cons_succ]
                  go_wp2_with fail
                  go_roundg (3 - (j + 1))
                  case measure => have := HG.out; omega
                  case rel => exact ⟨j + 1, by omega, rfl, by go_num, HC10.out.trans (hJ.mono HC10.out.size)⟩
        · obtain rfl : j = 3 := by omega
          have HA14 := Lib.hid (HA13.out _ HC.out)
          have HB14 := Lib.hid (HB13.out.trans (HC.out.mono HB13.out.size))
          clear HA13 HX13 HB13 HC HG hlt hj
          have b0 : (0 : Int) ≤ (k : Int) := by omega
          have b1 : (k : Int) < 17 := by omega
          go_wp2_with fail
          refine (CM.out _).mono ?_
          rintro e w21 ⟨g, cap, rfl, hcap, hg, hcells, hb⟩
          have HA21 := Lib.hid (HA14.out.step hb)
          have HB21 := Lib.hid (HB14.out.trans (hb.mono HB14.out.size))
          have kx := hcells k hk
          have hwk := HK1.out
          have hcap' : (17 : Int) ≤ (cap : Int) := by omega
          clear hb hcells HA14 HB14
          go_upto_region 22 with fail
          clear kx hwk
          go_upto_region 23 with (first | (refine wpList_build_as rfl 40 _ rfl (ints los) (by kernel_rfl) ?_) | (refine wpList_store_row rfl 40 _ _ rfl _ (ints los) rfl rfl 40 _ (heap_alloc_new _ _) (size40 rfl) rfl (ints_one _) ?_; rw [World.setRow_alloc_new]))
          have hn := below_new w21 (.cells (ints los) 40)
          have HA22 := Lib.hid (HA21.out.step hn)
          have HL22 := Lib.hid (IAt.new w21 los)
          have HB22 := Lib.hid (HB21.out.trans (hn.mono HB21.out.size))
          obtain ⟨W22, hW22⟩ : ∃ W22, w21.alloc (.cells (ints los) 40) = W22 := ⟨_, rfl⟩
          rw [hW22] at HA22 HL22 HB22 ⊢
          clear hW22 hn HA21 HB21 hg
          generalize w21.heap.size = q18 at *
          have HLK := Lib.hid (fun W (hb : Below W22.heap.size W22 W) => show W.cell? ⟨q18, k, none⟩ = some (.int .i64 (lo k)) from (HL22.out.step hb).get (k := k) hk)
          have hu : IntKind.u64.wrap (k : Int) = (k : Int) := by show (k : Int) % 18446744073709551616 = k; omega
          have hw : wrap64 (k : Int) = (k : Int) := wrap_in (by omega) (by omega)
          have HU := Lib.hid hu; have HW := Lib.hid hw
          have CSA := Lib.hid (CS.out k hk (lo k)); have CSB := Lib.hid (CS.out k hk (lo k - 1))
          clear hu hw HL22
          refine AnyOrder.region_store 13 [.eq (c.V), .eq (.string (nm k)), .eq (.int .i64 z), .eq (.int .u64 (IntKind.u64.wrap z)), .eq (.int .u64 (k : Int)), .eq (.int .i64 (k : Int)), .eq (ptr q18 k), .eq (.int .i64 (lo k)), .eq (.tuple #[(c.set k (lo k)).V, .bool true]), .eq (.tuple #[(c.set k (lo k)).V, .bool true]), .eq ((c.set k (lo k)).V), .eq (.bool true), .of (AnyOrder.Fresh W22 24 zc.cells)] (fun wx => Below W22.heap.size W22 wx) 11 102 9 113 19 112 24 (.tuple #[(c.set k (lo k)).V, .bool true]) (.bool true) _ _ (by kernel_rfl) (by kernel_rfl) rfl (by kernel_rfl) rfl rfl (by decide) rfl rfl rfl rfl rfl (by decide) rfl rfl rfl (fun ρ w e => by simp [execOp, e, go_sem]) (below_drewN (Below.refl _ _) 1) (fun p w w2 hp _ hb v hv => by simp at hp; subst hp; exact AnyOrder.Fresh.keep hv hb) ?_ ?_
          · intro i o listed a1 w2 hin ho st hl hdep
            match i, ho with
            | 0, ho => (injection ho with ho; subst ho; have ec : ∀ v, a1.eval (.const v) = v := fun _ => rfl; have ef : ∀ f, a1.eval (.func f) = .func (.func f) #[] #[] := fun _ => rfl; have e0 : a1.eval (.tmp 2) = ptr w.heap.size 0 := st.old hl 2 (by kernel_rfl); exact AnyOrder.step_value rfl (AnyOrder.wanted_none rfl) (c.V) (run_load_cfg e0 (HA22.out.step st.inv)) st.inv (Below.refl _ _) rfl)
            | 1, ho => (injection ho with ho; subst ho; have ec : ∀ v, a1.eval (.const v) = v := fun _ => rfl; have ef : ∀ f, a1.eval (.func f) = .func (.func f) #[] #[] := fun _ => rfl; have e0 : a1.eval (.tmp 17) = .string (nm k) := st.old hl 17 (by kernel_rfl); exact AnyOrder.step_value rfl (AnyOrder.wanted_none rfl) (.string (nm k)) (AnyOrder.run_move e0) st.inv (Below.refl _ _) rfl)
            | 2, ho => (injection ho with ho; subst ho; have ec : ∀ v, a1.eval (.const v) = v := fun _ => rfl; have ef : ∀ f, a1.eval (.func f) = .func (.func f) #[] #[] := fun _ => rfl; have e0 : a1.eval (.tmp 1) = .int .i64 z := st.old hl 1 (by kernel_rfl); exact AnyOrder.step_value rfl (AnyOrder.wanted_none rfl) (.int .i64 z) (AnyOrder.run_move e0) st.inv (Below.refl _ _) rfl)
            | 3, ho => (injection ho with ho; subst ho; have ec : ∀ v, a1.eval (.const v) = v := fun _ => rfl; have ef : ∀ f, a1.eval (.func f) = .func (.func f) #[] #[] := fun _ => rfl; have e0 : a1.eval (.tmp 105) = .int .i64 z := st.done 2 105 (hdep ⟨2, .data⟩ (by simp) rfl) rfl; exact AnyOrder.step_value rfl (AnyOrder.wanted_none rfl) (.int .u64 (IntKind.u64.wrap z)) (by generalize a1.eval = ρ at ec ef e0 ⊢; simp [execOp, ec, ef, e0, IntWalk.i64_left, go_sem]) st.inv (Below.refl _ _) rfl)
            | 4, ho => (injection ho with ho; subst ho; have ec : ∀ v, a1.eval (.const v) = v := fun _ => rfl; have ef : ∀ f, a1.eval (.func f) = .func (.func f) #[] #[] := fun _ => rfl; have e0 : a1.eval (.tmp 106) = .int .u64 (IntKind.u64.wrap z) := st.done 3 106 (hdep ⟨3, .data⟩ (by simp) rfl) rfl; exact AnyOrder.step_value rfl (AnyOrder.wanted_none rfl) (.int .u64 (k : Int)) (by generalize a1.eval = ρ at ec ef e0 ⊢; simp [execOp, ec, ef, e0, IntWalk.i64_left, HK3.out, HU.out, go_sem]) st.inv (Below.refl _ _) rfl)
            | 5, ho => (injection ho with ho; subst ho; have ec : ∀ v, a1.eval (.const v) = v := fun _ => rfl; have ef : ∀ f, a1.eval (.func f) = .func (.func f) #[] #[] := fun _ => rfl; have e0 : a1.eval (.tmp 107) = .int .u64 (k : Int) := st.done 4 107 (hdep ⟨4, .data⟩ (by simp) rfl) rfl; exact AnyOrder.step_value rfl (AnyOrder.wanted_none rfl) (.int .i64 (k : Int)) (by generalize a1.eval = ρ at ec ef e0 ⊢; simp [execOp, ec, ef, e0, IntWalk.i64_left, HW.out, go_sem]) st.inv (Below.refl _ _) rfl)
            | 6, ho => (injection ho with ho; subst ho; have ec : ∀ v, a1.eval (.const v) = v := fun _ => rfl; have ef : ∀ f, a1.eval (.func f) = .func (.func f) #[] #[] := fun _ => rfl; have e0 : a1.eval (.tmp 18) = ptr q18 0 := st.old hl 18 (by kernel_rfl); have e1 : a1.eval (.tmp 108) = .int .i64 (k : Int) := st.done 5 108 (hdep ⟨5, .data⟩ (by simp) rfl) rfl; exact AnyOrder.step_value rfl (AnyOrder.wanted_none rfl) (ptr q18 k) (by generalize a1.eval = ρ at ec ef e0 e1 ⊢; simp [execOp, ec, ef, e0, e1, IntWalk.i64_left, b0, b1, go_sem]) st.inv (Below.refl _ _) rfl)
            | 7, ho => (injection ho with ho; subst ho; have ec : ∀ v, a1.eval (.const v) = v := fun _ => rfl; have ef : ∀ f, a1.eval (.func f) = .func (.func f) #[] #[] := fun _ => rfl; have e0 : a1.eval (.tmp 109) = ptr q18 k := st.done 6 109 (hdep ⟨6, .data⟩ (by simp) rfl) rfl; exact AnyOrder.step_value rfl (AnyOrder.wanted_none rfl) (.int .i64 (lo k)) (by generalize a1.eval = ρ at ec ef e0 ⊢; simp [execOp, ec, ef, e0, IntWalk.i64_left, HLK.out _ st.inv, go_sem]) st.inv (Below.refl _ _) rfl)
            | 8, ho => (injection ho with ho; subst ho; have ec : ∀ v, a1.eval (.const v) = v := fun _ => rfl; have ef : ∀ f, a1.eval (.func f) = .func (.func f) #[] #[] := fun _ => rfl; have e0 : a1.eval (.tmp 103) = c.V := st.done 0 103 (hdep ⟨0, .data⟩ (by simp) rfl) rfl; have e1 : a1.eval (.tmp 104) = .string (nm k) := st.done 1 104 (hdep ⟨1, .data⟩ (by simp) rfl) rfl; have e2 : a1.eval (.tmp 110) = .int .i64 (lo k) := st.done 7 110 (hdep ⟨7, .data⟩ (by simp) rfl) rfl; exact AnyOrder.step_call rfl (AnyOrder.wanted_none rfl) 19 #[c.V, .string (nm k), .int .i64 (lo k)] (by generalize a1.eval = ρ at ec ef e0 e1 e2 ⊢; simp [execOp, ec, ef, e0, e1, e2, go_sem]) ((CSA.out _).mono (fun e w3 h => by obtain ⟨rfl, hb⟩ := h; exact ⟨_, rfl, st.inv.trans (hb.mono st.inv.size), hb, rfl⟩)))
            | 9, ho => (injection ho with ho; subst ho; have ec : ∀ v, a1.eval (.const v) = v := fun _ => rfl; have ef : ∀ f, a1.eval (.func f) = .func (.func f) #[] #[] := fun _ => rfl; have e0 : a1.eval (.tmp 111) = .tuple #[(c.set k (lo k)).V, .bool true] := st.done 8 111 (hdep ⟨8, .data⟩ (by simp) rfl) rfl; exact AnyOrder.step_value rfl (AnyOrder.wanted_none rfl) (.tuple #[(c.set k (lo k)).V, .bool true]) (AnyOrder.run_move e0) st.inv (Below.refl _ _) rfl)
            | 10, ho => (injection ho with ho; subst ho; have ec : ∀ v, a1.eval (.const v) = v := fun _ => rfl; have ef : ∀ f, a1.eval (.func f) = .func (.func f) #[] #[] := fun _ => rfl; have e0 : a1.eval (.tmp 102) = .tuple #[(c.set k (lo k)).V, .bool true] := st.done 9 102 (hdep ⟨9, .data⟩ (by simp) rfl) rfl; exact AnyOrder.step_value rfl (AnyOrder.wanted_none rfl) ((c.set k (lo k)).V) (by generalize a1.eval = ρ at ec ef e0 ⊢; simp [execOp, ec, ef, e0, IntWalk.i64_left, go_sem]) st.inv (Below.refl _ _) rfl)
            | 11, ho => (injection ho with ho; subst ho; have ec : ∀ v, a1.eval (.const v) = v := fun _ => rfl; have ef : ∀ f, a1.eval (.func f) = .func (.func f) #[] #[] := fun _ => rfl; have e0 : a1.eval (.tmp 102) = .tuple #[(c.set k (lo k)).V, .bool true] := st.done 9 102 (hdep ⟨9, .data⟩ (by simp) rfl) rfl; exact AnyOrder.step_value rfl (AnyOrder.wanted_none rfl) (.bool true) (by generalize a1.eval = ρ at ec ef e0 ⊢; simp [execOp, ec, ef, e0, IntWalk.i64_left, go_sem]) st.inv (Below.refl _ _) rfl)
            | 12, ho => (injection ho with ho; subst ho; have ec : ∀ v, a1.eval (.const v) = v := fun _ => rfl; have ef : ∀ f, a1.eval (.func f) = .func (.func f) #[] #[] := fun _ => rfl; exact AnyOrder.step_value rfl (AnyOrder.wanted_none rfl) (ptr w2.heap.size 0) run_alloc24 (st.inv.alloc st.inv.size _) (below_new _ _) ⟨_, rfl, st.inv.size, by simp, heap_alloc_new _ _⟩)
            | n + 13, ho => exact absurd hin (by omega)
          · intro V23 hJ
            simp only [AnyOrder.finK, List.take_succ_cons, List.take_zero, List.drop_succ_cons, List.drop_zero, Act.put, List.setIfInBounds_toArray, List.set_cons_zero, List.set_cons_succ]
            rintro v ⟨q19, rfl, hq1, hq2, hq3⟩
            refine ⟨V23.setRow q19 (c.set k (lo k)).cells, run_store_cfg rfl rfl hq3, ?_⟩
            have hbel : Below W22.heap.size W22 (V23.setRow q19 (c.set k (lo k)).cells) := below_setRow hJ hq1 _
            have HA23 := Lib.hid (HA22.out.step hbel)
            have HD23 := Lib.hid (CAt.setRow (c := zc) hq3 (c.set k (lo k)))
            have HC23 := Lib.hid hbel
            have HB23 := Lib.hid (HB22.out.trans (hbel.mono HB22.out.size))
            obtain ⟨W23, hW23⟩ : ∃ W23, V23.setRow q19 (c.set k (lo k)).cells = W23 := ⟨_, rfl⟩
            rw [hW23] at HA23 HD23 HC23 HB23 ⊢
            clear hW23 hbel hJ hq1 hq2 hq3 HA22 HB22
            go_wp2_with fail
            refine AnyOrder.region_store 14 [.eq (c.V), .eq (.string (nm k)), .eq (.int .i64 z), .eq (.int .u64 (IntKind.u64.wrap z)), .eq (.int .u64 (k : Int)), .eq (.int .i64 (k : Int)), .eq (ptr q18 k), .eq (.int .i64 (lo k)), .eq (.int .i64 (lo k - 1)), .eq (.tuple #[(c.set k (lo k - 1)).V, .bool true]), .eq (.tuple #[(c.set k (lo k - 1)).V, .bool true]), .eq ((c.set k (lo k - 1)).V), .eq (.bool true), .of (AnyOrder.Fresh W23 24 zc.cells)] (fun wx => Below W23.heap.size W23 wx) 12 114 10 126 21 125 24 (.tuple #[(c.set k (lo k - 1)).V, .bool true]) (.bool true) _ _ (by kernel_rfl) (by kernel_rfl) rfl (by kernel_rfl) rfl rfl (by decide) rfl rfl rfl rfl rfl (by decide) rfl rfl rfl (fun ρ w e => by simp [execOp, e, go_sem]) (below_drewN (Below.refl _ _) 1) (fun p w w2 hp _ hb v hv => by simp at hp; subst hp; exact AnyOrder.Fresh.keep hv hb) ?_ ?_
            · intro i o listed a1 w2 hin ho st hl hdep
              match i, ho with
              | 0, ho => (injection ho with ho; subst ho; have ec : ∀ v, a1.eval (.const v) = v := fun _ => rfl; have ef : ∀ f, a1.eval (.func f) = .func (.func f) #[] #[] := fun _ => rfl; have e0 : a1.eval (.tmp 2) = ptr w.heap.size 0 := st.old hl 2 (by kernel_rfl); exact AnyOrder.step_value rfl (AnyOrder.wanted_none rfl) (c.V) (run_load_cfg e0 (HA23.out.step st.inv)) st.inv (Below.refl _ _) rfl)
              | 1, ho => (injection ho with ho; subst ho; have ec : ∀ v, a1.eval (.const v) = v := fun _ => rfl; have ef : ∀ f, a1.eval (.func f) = .func (.func f) #[] #[] := fun _ => rfl; have e0 : a1.eval (.tmp 17) = .string (nm k) := st.old hl 17 (by kernel_rfl); exact AnyOrder.step_value rfl (AnyOrder.wanted_none rfl) (.string (nm k)) (AnyOrder.run_move e0) st.inv (Below.refl _ _) rfl)
              | 2, ho => (injection ho with ho; subst ho; have ec : ∀ v, a1.eval (.const v) = v := fun _ => rfl; have ef : ∀ f, a1.eval (.func f) = .func (.func f) #[] #[] := fun _ => rfl; have e0 : a1.eval (.tmp 1) = .int .i64 z := st.old hl 1 (by kernel_rfl); exact AnyOrder.step_value rfl (AnyOrder.wanted_none rfl) (.int .i64 z) (AnyOrder.run_move e0) st.inv (Below.refl _ _) rfl)
              | 3, ho => (injection ho with ho; subst ho; have ec : ∀ v, a1.eval (.const v) = v := fun _ => rfl; have ef : ∀ f, a1.eval (.func f) = .func (.func f) #[] #[] := fun _ => rfl; have e0 : a1.eval (.tmp 117) = .int .i64 z := st.done 2 117 (hdep ⟨2, .data⟩ (by simp) rfl) rfl; exact AnyOrder.step_value rfl (AnyOrder.wanted_none rfl) (.int .u64 (IntKind.u64.wrap z)) (by generalize a1.eval = ρ at ec ef e0 ⊢; simp [execOp, ec, ef, e0, IntWalk.i64_left, go_sem]) st.inv (Below.refl _ _) rfl)
              | 4, ho => (injection ho with ho; subst ho; have ec : ∀ v, a1.eval (.const v) = v := fun _ => rfl; have ef : ∀ f, a1.eval (.func f) = .func (.func f) #[] #[] := fun _ => rfl; have e0 : a1.eval (.tmp 118) = .int .u64 (IntKind.u64.wrap z) := st.done 3 118 (hdep ⟨3, .data⟩ (by simp) rfl) rfl; exact AnyOrder.step_value rfl (AnyOrder.wanted_none rfl) (.int .u64 (k : Int)) (by generalize a1.eval = ρ at ec ef e0 ⊢; simp [execOp, ec, ef, e0, IntWalk.i64_left, HK3.out, HU.out, go_sem]) st.inv (Below.refl _ _) rfl)
              | 5, ho => (injection ho with ho; subst ho; have ec : ∀ v, a1.eval (.const v) = v := fun _ => rfl; have ef : ∀ f, a1.eval (.func f) = .func (.func f) #[] #[] := fun _ => rfl; have e0 : a1.eval (.tmp 119) = .int .u64 (k : Int) := st.done 4 119 (hdep ⟨4, .data⟩ (by simp) rfl) rfl; exact AnyOrder.step_value rfl (AnyOrder.wanted_none rfl) (.int .i64 (k : Int)) (by generalize a1.eval = ρ at ec ef e0 ⊢; simp [execOp, ec, ef, e0, IntWalk.i64_left, HW.out, go_sem]) st.inv (Below.refl _ _) rfl)
              | 6, ho => (injection ho with ho; subst ho; have ec : ∀ v, a1.eval (.const v) = v := fun _ => rfl; have ef : ∀ f, a1.eval (.func f) = .func (.func f) #[] #[] := fun _ => rfl; have e0 : a1.eval (.tmp 18) = ptr q18 0 := st.old hl 18 (by kernel_rfl); have e1 : a1.eval (.tmp 120) = .int .i64 (k : Int) := st.done 5 120 (hdep ⟨5, .data⟩ (by simp) rfl) rfl; exact AnyOrder.step_value rfl (AnyOrder.wanted_none rfl) (ptr q18 k) (by generalize a1.eval = ρ at ec ef e0 e1 ⊢; simp [execOp, ec, ef, e0, e1, IntWalk.i64_left, b0, b1, go_sem]) st.inv (Below.refl _ _) rfl)
              | 7, ho => (injection ho with ho; subst ho; have ec : ∀ v, a1.eval (.const v) = v := fun _ => rfl; have ef : ∀ f, a1.eval (.func f) = .func (.func f) #[] #[] := fun _ => rfl; have e0 : a1.eval (.tmp 121) = ptr q18 k := st.done 6 121 (hdep ⟨6, .data⟩ (by simp) rfl) rfl; exact AnyOrder.step_value rfl (AnyOrder.wanted_none rfl) (.int .i64 (lo k)) (by generalize a1.eval = ρ at ec ef e0 ⊢; simp [execOp, ec, ef, e0, IntWalk.i64_left, HLK.out _ (HC23.out.trans (st.inv.mono HC23.out.size)), go_sem]) st.inv (Below.refl _ _) rfl)
              | 8, ho => (injection ho with ho; subst ho; have ec : ∀ v, a1.eval (.const v) = v := fun _ => rfl; have ef : ∀ f, a1.eval (.func f) = .func (.func f) #[] #[] := fun _ => rfl; have e0 : a1.eval (.tmp 122) = .int .i64 (lo k) := st.done 7 122 (hdep ⟨7, .data⟩ (by simp) rfl) rfl; exact AnyOrder.step_value rfl (AnyOrder.wanted_none rfl) (.int .i64 (lo k - 1)) (by generalize a1.eval = ρ at ec ef e0 ⊢; simp [execOp, ec, ef, e0, IntWalk.i64_left, HDEC.out, go_sem]) st.inv (Below.refl _ _) rfl)
              | 9, ho => (injection ho with ho; subst ho; have ec : ∀ v, a1.eval (.const v) = v := fun _ => rfl; have ef : ∀ f, a1.eval (.func f) = .func (.func f) #[] #[] := fun _ => rfl; have e0 : a1.eval (.tmp 115) = c.V := st.done 0 115 (hdep ⟨0, .data⟩ (by simp) rfl) rfl; have e1 : a1.eval (.tmp 116) = .string (nm k) := st.done 1 116 (hdep ⟨1, .data⟩ (by simp) rfl) rfl; have e2 : a1.eval (.tmp 123) = .int .i64 (lo k - 1) := st.done 8 123 (hdep ⟨8, .data⟩ (by simp) rfl) rfl; exact AnyOrder.step_call rfl (AnyOrder.wanted_none rfl) 19 #[c.V, .string (nm k), .int .i64 (lo k - 1)] (by generalize a1.eval = ρ at ec ef e0 e1 e2 ⊢; simp [execOp, ec, ef, e0, e1, e2, go_sem]) ((CSB.out _).mono (fun e w3 h => by obtain ⟨rfl, hb⟩ := h; exact ⟨_, rfl, st.inv.trans (hb.mono st.inv.size), hb, rfl⟩)))
              | 10, ho => (injection ho with ho; subst ho; have ec : ∀ v, a1.eval (.const v) = v := fun _ => rfl; have ef : ∀ f, a1.eval (.func f) = .func (.func f) #[] #[] := fun _ => rfl; have e0 : a1.eval (.tmp 124) = .tuple #[(c.set k (lo k - 1)).V, .bool true] := st.done 9 124 (hdep ⟨9, .data⟩ (by simp) rfl) rfl; exact AnyOrder.step_value rfl (AnyOrder.wanted_none rfl) (.tuple #[(c.set k (lo k - 1)).V, .bool true]) (AnyOrder.run_move e0) st.inv (Below.refl _ _) rfl)
              | 11, ho => (injection ho with ho; subst ho; have ec : ∀ v, a1.eval (.const v) = v := fun _ => rfl; have ef : ∀ f, a1.eval (.func f) = .func (.func f) #[] #[] := fun _ => rfl; have e0 : a1.eval (.tmp 114) = .tuple #[(c.set k (lo k - 1)).V, .bool true] := st.done 10 114 (hdep ⟨10, .data⟩ (by simp) rfl) rfl; exact AnyOrder.step_value rfl (AnyOrder.wanted_none rfl) ((c.set k (lo k - 1)).V) (by generalize a1.eval = ρ at ec ef e0 ⊢; simp [execOp, ec, ef, e0, IntWalk.i64_left, go_sem]) st.inv (Below.refl _ _) rfl)
              | 12, ho => (injection ho with ho; subst ho; have ec : ∀ v, a1.eval (.const v) = v := fun _ => rfl; have ef : ∀ f, a1.eval (.func f) = .func (.func f) #[] #[] := fun _ => rfl; have e0 : a1.eval (.tmp 114) = .tuple #[(c.set k (lo k - 1)).V, .bool true] := st.done 10 114 (hdep ⟨10, .data⟩ (by simp) rfl) rfl; exact AnyOrder.step_value rfl (AnyOrder.wanted_none rfl) (.bool true) (by generalize a1.eval = ρ at ec ef e0 ⊢; simp [execOp, ec, ef, e0, IntWalk.i64_left, go_sem]) st.inv (Below.refl _ _) rfl)
              | 13, ho => (injection ho with ho; subst ho; have ec : ∀ v, a1.eval (.const v) = v := fun _ => rfl; have ef : ∀ f, a1.eval (.func f) = .func (.func f) #[] #[] := fun _ => rfl; exact AnyOrder.step_value rfl (AnyOrder.wanted_none rfl) (ptr w2.heap.size 0) run_alloc24 (st.inv.alloc st.inv.size _) (below_new _ _) ⟨_, rfl, st.inv.size, by simp, heap_alloc_new _ _⟩)
              | n + 14, ho => exact absurd hin (by omega)
            · intro V24 hJ
              simp only [AnyOrder.finK, List.take_succ_cons, List.take_zero, List.drop_succ_cons, List.drop_zero, Act.put, List.setIfInBounds_toArray, List.set_cons_zero, List.set_cons_succ]
              rintro v ⟨q21, rfl, hq1, hq2, hq3⟩
              refine ⟨V24.setRow q21 (c.set k (lo k - 1)).cells, run_store_cfg rfl rfl hq3, ?_⟩
              have hbel : Below W23.heap.size W23 (V24.setRow q21 (c.set k (lo k - 1)).cells) := below_setRow hJ hq1 _
              have HA24 := Lib.hid (HA23.out.step hbel).all
              have HD24 := Lib.hid (HD23.out.step hbel).all
              have HE24 := Lib.hid (CAt.setRow (c := zc) hq3 (c.set k (lo k - 1))).all
              have HB24 := Lib.hid (HB23.out.trans (hbel.mono HB23.out.size))
              obtain ⟨W24, hW24⟩ : ∃ W24, V24.setRow q21 (c.set k (lo k - 1)).cells = W24 := ⟨_, rfl⟩
              rw [hW24] at HA24 HD24 HE24 HB24 ⊢
              clear hW24 hbel hJ hq1 hq2 hq3 HA23 HD23 HB23
              have hcur := Below.refl W24.heap.size W24
              have C12C := Lib.hid (fun W => C12.out c W); have C13C := Lib.hid (fun W => C13.out c W)
              have hrp := HRP.out; have hap := HAP.out
              go_wp2_with (first | (refine wpList_load_rowG rfl 24 (.tmp 2) rfl _ rfl 24 c.cells (0, 0) _ (HA24.out _ hcur) Try.underlying24 rfl (size24 c) ?_) | (refine wpList_load_rowG rfl 24 (.tmp 19) rfl _ rfl 24 (c.set k (lo k)).cells (0, 0) _ (HD24.out _ hcur) Try.underlying24 rfl (size24 _) ?_) | (refine wpList_load_rowG rfl 24 (.tmp 21) rfl _ rfl 24 (c.set k (lo k - 1)).cells (0, 0) _ (HE24.out _ hcur) Try.underlying24 rfl (size24 _) ?_))
              refine (C9A.out _).mono ?_
              rintro e y0 ⟨rfl, hb⟩
              replace hcur := hcur.trans (hb.mono hcur.size)
              clear hb
              go_wp2_with (first | (refine wpList_load_rowG rfl 24 (.tmp 2) rfl _ rfl 24 c.cells (0, 0) _ (HA24.out _ hcur) Try.underlying24 rfl (size24 c) ?_) | (refine wpList_load_rowG rfl 24 (.tmp 19) rfl _ rfl 24 (c.set k (lo k)).cells (0, 0) _ (HD24.out _ hcur) Try.underlying24 rfl (size24 _) ?_) | (refine wpList_load_rowG rfl 24 (.tmp 21) rfl _ rfl 24 (c.set k (lo k - 1)).cells (0, 0) _ (HE24.out _ hcur) Try.underlying24 rfl (size24 _) ?_))
              refine (C9B.out _).mono ?_
              rintro e y1 ⟨rfl, hb⟩
              replace hcur := hcur.trans (hb.mono hcur.size)
              clear hb
              go_wp2_with (first | (refine wpList_load_rowG rfl 24 (.tmp 2) rfl _ rfl 24 c.cells (0, 0) _ (HA24.out _ hcur) Try.underlying24 rfl (size24 c) ?_) | (refine wpList_load_rowG rfl 24 (.tmp 19) rfl _ rfl 24 (c.set k (lo k)).cells (0, 0) _ (HD24.out _ hcur) Try.underlying24 rfl (size24 _) ?_) | (refine wpList_load_rowG rfl 24 (.tmp 21) rfl _ rfl 24 (c.set k (lo k - 1)).cells (0, 0) _ (HE24.out _ hcur) Try.underlying24 rfl (size24 _) ?_))
              refine (C12C.out _).mono ?_
              rintro e y2 ⟨rfl, hb⟩
              replace hcur := hcur.trans (hb.mono hcur.size)
              clear hb
              go_wp2_with (first | (refine wpList_load_rowG rfl 24 (.tmp 2) rfl _ rfl 24 c.cells (0, 0) _ (HA24.out _ hcur) Try.underlying24 rfl (size24 c) ?_) | (refine wpList_load_rowG rfl 24 (.tmp 19) rfl _ rfl 24 (c.set k (lo k)).cells (0, 0) _ (HD24.out _ hcur) Try.underlying24 rfl (size24 _) ?_) | (refine wpList_load_rowG rfl 24 (.tmp 21) rfl _ rfl 24 (c.set k (lo k - 1)).cells (0, 0) _ (HE24.out _ hcur) Try.underlying24 rfl (size24 _) ?_))
              refine (C13C.out _).mono ?_
              rintro e y3 ⟨rfl, hb⟩
              replace hcur := hcur.trans (hb.mono hcur.size)
              clear hb
              go_wp2_with (first | (refine wpList_load_rowG rfl 24 (.tmp 2) rfl _ rfl 24 c.cells (0, 0) _ (HA24.out _ hcur) Try.underlying24 rfl (size24 c) ?_) | (refine wpList_load_rowG rfl 24 (.tmp 19) rfl _ rfl 24 (c.set k (lo k)).cells (0, 0) _ (HD24.out _ hcur) Try.underlying24 rfl (size24 _) ?_) | (refine wpList_load_rowG rfl 24 (.tmp 21) rfl _ rfl 24 (c.set k (lo k - 1)).cells (0, 0) _ (HE24.out _ hcur) Try.underlying24 rfl (size24 _) ?_))
              go_ret
              exact ⟨rfl, HB24.out.trans (hcur.mono HB24.out.size)⟩
theorem siteBounds_walk (c : Cfg) (z : Int) (w : World) (_ : inI64 z) : Calls Try.prog 5 #[c.V, .int .i64 z] w fun e w' => e = .returned (.bool true) ∧ Below w.heap.size w w' := by
  cases h : okc c
  · exact bounds_no c z w h
  · exact bounds_ok c z w h
end Go.Proofs.Ythnjghkloodblaa
