/- SiteNames: the walk. -/
import Derived.Test.YthnjghkloodblaaSame
namespace Go.Proofs.Ythnjghkloodblaa
open Go.RowKit Go.Lib
set_option linter.unusedVariables false
set_option linter.unusedSimpArgs false

theorem wrap_u64_nonneg (z : Int) : 0 ≤ IntKind.u64.wrap z := by
  show 0 ≤ z % 18446744073709551616
  omega
theorem ints_set (l : List Int) (k : Nat) (x : Int) : ints (l.set k x) = (ints l).setIfInBounds k (.int .i64 x) := by simp [ints, List.map_set]
/-- the remainder by 17, as the text reckons it -/
theorem at_of (z : Int) : ∃ k : Nat, k < 17 ∧ wrap64 ((IntKind.u64.wrap z).tmod 17) = (k : Int) ∧ (IntKind.u64.wrap z).tmod 17 = (k : Int) := by
  have h0 : 0 ≤ IntKind.u64.wrap z := wrap_u64_nonneg z
  have e : (IntKind.u64.wrap z).tmod 17 = (IntKind.u64.wrap z) % 17 := Int.tmod_eq_emod_of_nonneg h0
  refine ⟨((IntKind.u64.wrap z) % 17).toNat, by omega, ?_, by rw [e]; omega⟩
  · rw [e, wrap_in (by omega) (by omega)]; omega
set_option maxRecDepth 100000 in
set_option maxHeartbeats 6400000 in
theorem names_known (c : Cfg) (z : Int) (s : ByteArray) (n : Int) (w : World) (hm : idx s < 17) : Calls Try.prog 4 #[c.V, .int .i64 z, .string s, .int .i64 n] w fun e w' => e = .returned (.bool true) ∧ Below w.heap.size w w' := by
  obtain ⟨k, hk, hk1, hk3⟩ := at_of z
  have HK1 := Lib.hid hk1
  clear hk1 hk3
  have HA0 := Lib.hid (CAt.new w c)
  have HB0 := Lib.hid (below_new w (.cells c.cells 24))
  have CN := Lib.hid rnames_any
  have CM := Lib.hid names_any
  have CL := Lib.hid (fun (d : Cfg) W => list_any d W)
  have CGK : Hid (∀ W, Calls Try.prog 18 #[c.V, .string (nm k)] W fun e w' => e = .returned (.tuple #[.int .i64 (c.get k), .bool true]) ∧ Below W.heap.size W w') := Lib.hid (fun W => by
    have := get_yes c (nm k) W (by rw [idx_nm hk]; exact hk)
    rwa [idx_nm hk] at this)
  have CSK : Hid (∀ W, Calls Try.prog 19 #[c.V, .string (nm k), .int .i64 n] W fun e w' => e = .returned (.tuple #[(c.set k n).V, .bool true]) ∧ Below W.heap.size W w') := Lib.hid (fun W => by
    have := set_yes c (nm k) n W (by rw [idx_nm hk]; exact hk)
    rwa [idx_nm hk] at this)
  have HI := Lib.hid (idx_lt hm)
  have HNO := Lib.hid (fun j (h : j < idx s) => idx_not h)
  generalize idx s = m at *
  go_enter Try.func4, Try.ntmps4
  go_wp2_with fail
  refine (awake_any _).mono ?_
  rintro e w1 ⟨rfl, hb⟩
  have HA1 := Lib.hid (HA0.out.step hb)
  have HB1 := Lib.hid (HB0.out.trans (hb.mono HB0.out.size))
  clear hb HA0 HB0
  go_wp2_with fail
  refine (CN.out _).mono ?_
  rintro e w2 ⟨rfl, hb⟩
  have HA2 := Lib.hid (HA1.out.step hb)
  have HB2 := Lib.hid (HB1.out.trans (hb.mono HB1.out.size))
  clear hb HA1 HB1
  go_upto_region 4 with (refine wpList_store_row rfl 31 _ _ rfl _ (texts names) rfl rfl 31 _ (heap_alloc_new _ _) size31 rfl (texts_one _) ?_; rw [World.setRow_alloc_new])
  have hn := below_new w2 (.cells (texts names) 31)
  have HA3 := Lib.hid (HA2.out.step hn)
  have HT3 := Lib.hid (At.new w2 31 (texts names))
  have HB3 := Lib.hid (HB2.out.trans (hn.mono HB2.out.size))
  obtain ⟨W3, hW3⟩ : ∃ W3, w2.alloc (.cells (texts names) 31) = W3 := ⟨_, rfl⟩
  rw [hW3] at HA3 HT3 HB3 ⊢; clear hW3 hn HA2 HB2
  generalize w2.heap.size = q at *
  go_wp2_with fail
  refine (CM.out _).mono ?_
  rintro e W4 ⟨g, cap, rfl, hcap, hg, hcells, hb⟩
  have HA4 := Lib.hid (HA3.out.step hb).all
  have HT4 := Lib.hid (fun W (h : Below W4.heap.size W4 W) k (hk : k < 17) => show W.cell? ⟨q, k, none⟩ = some (.string (nm k)) by
    have := At.below (HT3.out.below hb HT3.out.lt) h (At.lt (HT3.out.below hb HT3.out.lt))
    rw [this.cell, texts_at hk])
  have HG4 := Lib.hid (fun W (h : Below W4.heap.size W4 W) k (hk : k < 17) => show W.cell? ⟨g, k, none⟩ = some (.string (nm k)) by
    rw [h.cell (p := ⟨g, k, none⟩) hg]; exact hcells k hk)
  have HB4 := Lib.hid (HB3.out.trans (hb.mono HB3.out.size))
  have hcap' : (17 : Int) ≤ (cap : Int) := by omega
  clear hb hcells HA3 HT3 HB3 hg
  go_wp2_with fail
  go_loopg [11, 12] 17 (fun gh s11 s12 wx => ∃ j : Nat, j ≤ 17 ∧ gh = 17 - j ∧ s12 = .int .i64 (j : Int) ∧ s11 = .bool (decide (m < j)) ∧ Below W4.heap.size W4 wx)
  case atStart => exact ⟨0, Nat.zero_le _, rfl, rfl, by simp, Below.refl _ _⟩
  case round =>
    obtain ⟨j, hj, hgh, rfl, rfl, hcur⟩ := hrel
    have HG := Lib.hid hgh; clear hgh
    by_cases hlt : j < 17
    · have k1 := HG4.out wr hcur j hlt
      have k2 := HT4.out wr hcur j hlt
      have b0 : (0 : Int) ≤ (j : Int) := by omega
      have b1 : (j : Int) < 17 := by omega
      have HC := Lib.hid hcur
      clear hcur
      by_cases hmj : m < j
      · have d1 : decide (m < j) = true := by simpa using hmj
        have d2 : decide (m < j + 1) = true := by simp; omega
        have D2 := Lib.hid d2
        rw [d1]
        clear d1 d2
        generalize nm j = x at *
        go_wp2_with fail
        go_quiet (fail)
        go_wp2_with fail
        go_roundg (17 - (j + 1))
        case measure => have := HG.out; omega
        case rel => exact ⟨j + 1, by omega, rfl, by go_num, by rw [D2.out], below_drewN HC.out _⟩
      · have d1 : decide (m < j) = false := by simpa using hmj
        rw [d1]
        by_cases hmj2 : j = m
        · subst hmj2
          have d2 : decide (j < j + 1) = true := by simp
          have D2 := Lib.hid d2
          have hs : (s.toList == (nm j).toList) = true := by rw [HI.out]; simp
          clear d1 d2
          generalize nm j = x at *
          go_wp2_with fail
          go_quiet (fail)
          go_wp2_with fail
          go_roundg (17 - (j + 1))
          case measure => have := HG.out; omega
          case rel => exact ⟨j + 1, by omega, rfl, by go_num, by rw [D2.out], below_drewN HC.out _⟩
        · have d2 : decide (m < j + 1) = false := by simp; omega
          have D2 := Lib.hid d2
          have hs : (s.toList == (nm j).toList) = false := text_ne (fun e => HNO.out j (by omega) e.symm)
          clear d1 d2
          generalize nm j = x at *
          go_wp2_with fail
          go_quiet (fail)
          go_wp2_with fail
          go_roundg (17 - (j + 1))
          case measure => have := HG.out; omega
          case rel => exact ⟨j + 1, by omega, rfl, by go_num, by rw [D2.out], below_drewN HC.out _⟩
    · obtain rfl : j = 17 := by omega
      have d1 : decide (m < 17) = true := by simpa using hm
      rw [d1]; clear d1
      go_wp2_with fail
      rw [HK1.out]
      obtain ⟨W, hW⟩ : ∃ W, W = wr := ⟨_, rfl⟩
      subst hW
      have b0 : (0 : Int) ≤ (k : Int) := by omega
      have b1 : (k : Int) < 17 := by omega
      have HA := Lib.hid (HA4.out _ hcur)
      have HB := Lib.hid (HB4.out.trans (hcur.mono HB4.out.size))
      have HC := Lib.hid hcur
      clear hcur
      refine AnyOrder.region_kinds2 9 [.eq (c.V), .eq (.int .i64 (k : Int)), .eq (ptr q k), .eq (.string (nm k)), .eq (.tuple #[.int .i64 (c.get k), .bool true]), .eq (.tuple #[.int .i64 (c.get k), .bool true]), .eq (.int .i64 (c.get k)), .eq (.bool true), .eq (.int .i64 (c.get k))] (fun wx => Below W.heap.size W wx) (by kernel_rfl) (by kernel_rfl) rfl (by kernel_rfl) (below_drewN (Below.refl _ _) 1) (fun p _ _ hp => by simp at hp) ?_ ?_
      · intro i o listed a1 w2 hin ho st hl hdep
        match i, ho with
        | 0, ho => (injection ho with ho; subst ho; have ec : ∀ v, a1.eval (.const v) = v := fun _ => rfl; have ef : ∀ f, a1.eval (.func f) = .func (.func f) #[] #[] := fun _ => rfl; have e0 : a1.eval (.tmp 4) = ptr w.heap.size 0 := st.old hl 4 (by kernel_rfl); exact AnyOrder.step_value rfl (AnyOrder.wanted_none rfl) (c.V) (run_load_cfg e0 (HA.out.step st.inv)) st.inv (Below.refl _ _) rfl)
        | 1, ho => (injection ho with ho; subst ho; have ec : ∀ v, a1.eval (.const v) = v := fun _ => rfl; have ef : ∀ f, a1.eval (.func f) = .func (.func f) #[] #[] := fun _ => rfl; have e0 : a1.eval (.tmp 17) = .int .i64 (k : Int) := st.old hl 17 (by kernel_rfl); exact AnyOrder.step_value rfl (AnyOrder.wanted_none rfl) (.int .i64 (k : Int)) (AnyOrder.run_move e0) st.inv (Below.refl _ _) rfl)
        | 2, ho => (injection ho with ho; subst ho; have ec : ∀ v, a1.eval (.const v) = v := fun _ => rfl; have ef : ∀ f, a1.eval (.func f) = .func (.func f) #[] #[] := fun _ => rfl; have e0 : a1.eval (.tmp 9) = ptr q 0 := st.old hl 9 (by kernel_rfl); have e1 : a1.eval (.tmp 84) = .int .i64 (k : Int) := st.done 1 84 (hdep ⟨1, .data⟩ (by simp) rfl) rfl; exact AnyOrder.step_value rfl (AnyOrder.wanted_none rfl) (ptr q k) (by generalize a1.eval = ρ at ec ef e0 e1 ⊢; simp [execOp, ec, ef, e0, e1, IntWalk.i64_left, b0, b1, go_sem]) st.inv (Below.refl _ _) rfl)
        | 3, ho => (injection ho with ho; subst ho; have ec : ∀ v, a1.eval (.const v) = v := fun _ => rfl; have ef : ∀ f, a1.eval (.func f) = .func (.func f) #[] #[] := fun _ => rfl; have e0 : a1.eval (.tmp 85) = ptr q k := st.done 2 85 (hdep ⟨2, .data⟩ (by simp) rfl) rfl; exact AnyOrder.step_value rfl (AnyOrder.wanted_none rfl) (.string (nm k)) (by generalize a1.eval = ρ at ec ef e0 ⊢; simp [execOp, ec, ef, e0, IntWalk.i64_left, HT4.out _ (HC.out.trans (st.inv.mono HC.out.size)) k hk, go_sem]) st.inv (Below.refl _ _) rfl)
        | 4, ho => (injection ho with ho; subst ho; have ec : ∀ v, a1.eval (.const v) = v := fun _ => rfl; have ef : ∀ f, a1.eval (.func f) = .func (.func f) #[] #[] := fun _ => rfl; have e0 : a1.eval (.tmp 83) = c.V := st.done 0 83 (hdep ⟨0, .data⟩ (by simp) rfl) rfl; have e1 : a1.eval (.tmp 86) = .string (nm k) := st.done 3 86 (hdep ⟨3, .data⟩ (by simp) rfl) rfl; exact AnyOrder.step_call rfl (AnyOrder.wanted_none rfl) 18 #[c.V, .string (nm k)] (by generalize a1.eval = ρ at ec ef e0 e1 ⊢; simp [execOp, ec, ef, e0, e1, go_sem]) ((CGK.out _).mono (fun e w3 h => by obtain ⟨rfl, hb⟩ := h; exact ⟨_, rfl, st.inv.trans (hb.mono st.inv.size), hb, rfl⟩)))
        | 5, ho => (injection ho with ho; subst ho; have ec : ∀ v, a1.eval (.const v) = v := fun _ => rfl; have ef : ∀ f, a1.eval (.func f) = .func (.func f) #[] #[] := fun _ => rfl; have e0 : a1.eval (.tmp 87) = .tuple #[.int .i64 (c.get k), .bool true] := st.done 4 87 (hdep ⟨4, .data⟩ (by simp) rfl) rfl; exact AnyOrder.step_value rfl (AnyOrder.wanted_none rfl) (.tuple #[.int .i64 (c.get k), .bool true]) (AnyOrder.run_move e0) st.inv (Below.refl _ _) rfl)
        | 6, ho => (injection ho with ho; subst ho; have ec : ∀ v, a1.eval (.const v) = v := fun _ => rfl; have ef : ∀ f, a1.eval (.func f) = .func (.func f) #[] #[] := fun _ => rfl; have e0 : a1.eval (.tmp 82) = .tuple #[.int .i64 (c.get k), .bool true] := st.done 5 82 (hdep ⟨5, .data⟩ (by simp) rfl) rfl; exact AnyOrder.step_value rfl (AnyOrder.wanted_none rfl) (.int .i64 (c.get k)) (by generalize a1.eval = ρ at ec ef e0 ⊢; simp [execOp, ec, ef, e0, IntWalk.i64_left, go_sem]) st.inv (Below.refl _ _) rfl)
        | 7, ho => (injection ho with ho; subst ho; have ec : ∀ v, a1.eval (.const v) = v := fun _ => rfl; have ef : ∀ f, a1.eval (.func f) = .func (.func f) #[] #[] := fun _ => rfl; have e0 : a1.eval (.tmp 82) = .tuple #[.int .i64 (c.get k), .bool true] := st.done 5 82 (hdep ⟨5, .data⟩ (by simp) rfl) rfl; exact AnyOrder.step_value rfl (AnyOrder.wanted_none rfl) (.bool true) (by generalize a1.eval = ρ at ec ef e0 ⊢; simp [execOp, ec, ef, e0, IntWalk.i64_left, go_sem]) st.inv (Below.refl _ _) rfl)
        | 8, ho => (injection ho with ho; subst ho; have ec : ∀ v, a1.eval (.const v) = v := fun _ => rfl; have ef : ∀ f, a1.eval (.func f) = .func (.func f) #[] #[] := fun _ => rfl; have e0 : a1.eval (.tmp 88) = .int .i64 (c.get k) := st.done 6 88 (hdep ⟨6, .data⟩ (by simp) rfl) rfl; exact AnyOrder.step_value rfl (AnyOrder.wanted_none rfl) (.int .i64 (c.get k)) (by generalize a1.eval = ρ at ec ef e0 ⊢; simp [execOp, ec, ef, e0, IntWalk.i64_left, go_sem]) st.inv (Below.refl _ _) rfl)
        | n + 9, ho => exact absurd hin (by omega)
      · intro W20 hJ
        simp only [AnyOrder.finK, List.take_succ_cons, List.take_zero, List.drop_succ_cons, List.drop_zero, Act.put, List.setIfInBounds_toArray, List.set_cons_zero, List.set_cons_succ]
        have HA20 := Lib.hid (HA.out.step hJ)
        have HB20 := Lib.hid (HB.out.trans (hJ.mono HB.out.size))
        have HC20 := Lib.hid (HC.out.trans (hJ.mono HC.out.size))
        clear hJ HA HB HC
        go_wp2_with fail
        refine AnyOrder.region_store 10 [.eq (c.V), .eq (.int .i64 (k : Int)), .eq (ptr q k), .eq (.string (nm k)), .eq (.int .i64 n), .eq (.tuple #[(c.set k n).V, .bool true]), .eq (.tuple #[(c.set k n).V, .bool true]), .eq ((c.set k n).V), .eq (.bool true), .of (AnyOrder.Fresh W20 24 zc.cells)] (fun wx => Below W20.heap.size W20 wx) 8 90 6 98 20 97 24 (.tuple #[(c.set k n).V, .bool true]) (.bool true) _ _ (by kernel_rfl) (by kernel_rfl) rfl (by kernel_rfl) rfl rfl (by decide) rfl rfl rfl rfl rfl (by decide) rfl rfl rfl (fun ρ w e => by simp [execOp, e, go_sem]) (below_drewN (Below.refl _ _) 1) (fun p w w2 hp _ hb v hv => by simp at hp; subst hp; exact AnyOrder.Fresh.keep hv hb) ?_ ?_
        · intro i o listed a1 w2 hin ho st hl hdep
          match i, ho with
          | 0, ho => (injection ho with ho; subst ho; have ec : ∀ v, a1.eval (.const v) = v := fun _ => rfl; have ef : ∀ f, a1.eval (.func f) = .func (.func f) #[] #[] := fun _ => rfl; have e0 : a1.eval (.tmp 4) = ptr w.heap.size 0 := st.old hl 4 (by kernel_rfl); exact AnyOrder.step_value rfl (AnyOrder.wanted_none rfl) (c.V) (run_load_cfg e0 (HA20.out.step st.inv)) st.inv (Below.refl _ _) rfl)
          | 1, ho => (injection ho with ho; subst ho; have ec : ∀ v, a1.eval (.const v) = v := fun _ => rfl; have ef : ∀ f, a1.eval (.func f) = .func (.func f) #[] #[] := fun _ => rfl; have e0 : a1.eval (.tmp 17) = .int .i64 (k : Int) := st.old hl 17 (by kernel_rfl); exact AnyOrder.step_value rfl (AnyOrder.wanted_none rfl) (.int .i64 (k : Int)) (AnyOrder.run_move e0) st.inv (Below.refl _ _) rfl)
          | 2, ho => (injection ho with ho; subst ho; have ec : ∀ v, a1.eval (.const v) = v := fun _ => rfl; have ef : ∀ f, a1.eval (.func f) = .func (.func f) #[] #[] := fun _ => rfl; have e0 : a1.eval (.tmp 9) = ptr q 0 := st.old hl 9 (by kernel_rfl); have e1 : a1.eval (.tmp 92) = .int .i64 (k : Int) := st.done 1 92 (hdep ⟨1, .data⟩ (by simp) rfl) rfl; exact AnyOrder.step_value rfl (AnyOrder.wanted_none rfl) (ptr q k) (by generalize a1.eval = ρ at ec ef e0 e1 ⊢; simp [execOp, ec, ef, e0, e1, IntWalk.i64_left, b0, b1, go_sem]) st.inv (Below.refl _ _) rfl)
          | 3, ho => (injection ho with ho; subst ho; have ec : ∀ v, a1.eval (.const v) = v := fun _ => rfl; have ef : ∀ f, a1.eval (.func f) = .func (.func f) #[] #[] := fun _ => rfl; have e0 : a1.eval (.tmp 93) = ptr q k := st.done 2 93 (hdep ⟨2, .data⟩ (by simp) rfl) rfl; exact AnyOrder.step_value rfl (AnyOrder.wanted_none rfl) (.string (nm k)) (by generalize a1.eval = ρ at ec ef e0 ⊢; simp [execOp, ec, ef, e0, IntWalk.i64_left, HT4.out _ (HC20.out.trans (st.inv.mono HC20.out.size)) k hk, go_sem]) st.inv (Below.refl _ _) rfl)
          | 4, ho => (injection ho with ho; subst ho; have ec : ∀ v, a1.eval (.const v) = v := fun _ => rfl; have ef : ∀ f, a1.eval (.func f) = .func (.func f) #[] #[] := fun _ => rfl; have e0 : a1.eval (.tmp 3) = .int .i64 n := st.old hl 3 (by kernel_rfl); exact AnyOrder.step_value rfl (AnyOrder.wanted_none rfl) (.int .i64 n) (AnyOrder.run_move e0) st.inv (Below.refl _ _) rfl)
          | 5, ho => (injection ho with ho; subst ho; have ec : ∀ v, a1.eval (.const v) = v := fun _ => rfl; have ef : ∀ f, a1.eval (.func f) = .func (.func f) #[] #[] := fun _ => rfl; have e0 : a1.eval (.tmp 91) = c.V := st.done 0 91 (hdep ⟨0, .data⟩ (by simp) rfl) rfl; have e1 : a1.eval (.tmp 94) = .string (nm k) := st.done 3 94 (hdep ⟨3, .data⟩ (by simp) rfl) rfl; have e2 : a1.eval (.tmp 95) = .int .i64 n := st.done 4 95 (hdep ⟨4, .data⟩ (by simp) rfl) rfl; exact AnyOrder.step_call rfl (AnyOrder.wanted_none rfl) 19 #[c.V, .string (nm k), .int .i64 n] (by generalize a1.eval = ρ at ec ef e0 e1 e2 ⊢; simp [execOp, ec, ef, e0, e1, e2, go_sem]) ((CSK.out _).mono (fun e w3 h => by obtain ⟨rfl, hb⟩ := h; exact ⟨_, rfl, st.inv.trans (hb.mono st.inv.size), hb, rfl⟩)))
          | 6, ho => (injection ho with ho; subst ho; have ec : ∀ v, a1.eval (.const v) = v := fun _ => rfl; have ef : ∀ f, a1.eval (.func f) = .func (.func f) #[] #[] := fun _ => rfl; have e0 : a1.eval (.tmp 96) = .tuple #[(c.set k n).V, .bool true] := st.done 5 96 (hdep ⟨5, .data⟩ (by simp) rfl) rfl; exact AnyOrder.step_value rfl (AnyOrder.wanted_none rfl) (.tuple #[(c.set k n).V, .bool true]) (AnyOrder.run_move e0) st.inv (Below.refl _ _) rfl)
          | 7, ho => (injection ho with ho; subst ho; have ec : ∀ v, a1.eval (.const v) = v := fun _ => rfl; have ef : ∀ f, a1.eval (.func f) = .func (.func f) #[] #[] := fun _ => rfl; have e0 : a1.eval (.tmp 90) = .tuple #[(c.set k n).V, .bool true] := st.done 6 90 (hdep ⟨6, .data⟩ (by simp) rfl) rfl; exact AnyOrder.step_value rfl (AnyOrder.wanted_none rfl) ((c.set k n).V) (by generalize a1.eval = ρ at ec ef e0 ⊢; simp [execOp, ec, ef, e0, IntWalk.i64_left, go_sem]) st.inv (Below.refl _ _) rfl)
          | 8, ho => (injection ho with ho; subst ho; have ec : ∀ v, a1.eval (.const v) = v := fun _ => rfl; have ef : ∀ f, a1.eval (.func f) = .func (.func f) #[] #[] := fun _ => rfl; have e0 : a1.eval (.tmp 90) = .tuple #[(c.set k n).V, .bool true] := st.done 6 90 (hdep ⟨6, .data⟩ (by simp) rfl) rfl; exact AnyOrder.step_value rfl (AnyOrder.wanted_none rfl) (.bool true) (by generalize a1.eval = ρ at ec ef e0 ⊢; simp [execOp, ec, ef, e0, IntWalk.i64_left, go_sem]) st.inv (Below.refl _ _) rfl)
          | 9, ho => (injection ho with ho; subst ho; have ec : ∀ v, a1.eval (.const v) = v := fun _ => rfl; have ef : ∀ f, a1.eval (.func f) = .func (.func f) #[] #[] := fun _ => rfl; exact AnyOrder.step_value rfl (AnyOrder.wanted_none rfl) (ptr w2.heap.size 0) run_alloc24 (st.inv.alloc st.inv.size _) (below_new _ _) ⟨_, rfl, st.inv.size, by simp, heap_alloc_new _ _⟩)
          | n + 10, ho => exact absurd hin (by omega)
        · intro W21 hJ
          simp only [AnyOrder.finK, List.take_succ_cons, List.take_zero, List.drop_succ_cons, List.drop_zero, Act.put, List.setIfInBounds_toArray, List.set_cons_zero, List.set_cons_succ]
          rintro v ⟨q20, rfl, hq1, hq2, hq3⟩
          refine ⟨W21.setRow q20 (c.set k n).cells, run_store_cfg rfl rfl hq3, ?_⟩
          have hbel : Below W20.heap.size W20 (W21.setRow q20 (c.set k n).cells) := below_setRow hJ hq1 _
          have HA21 := Lib.hid (HA20.out.step hbel)
          have HD21 := Lib.hid (CAt.setRow (c := zc) hq3 (c.set k n))
          have HB21 := Lib.hid (HB20.out.trans (hbel.mono HB20.out.size))
          obtain ⟨W22, hW22⟩ : ∃ W22, W21.setRow q20 (c.set k n).cells = W22 := ⟨_, rfl⟩
          rw [hW22] at HA21 HD21 HB21 ⊢
          clear hW22 hbel hJ hq1 hq2 hq3 HA20 HB20 HC20
          go_wp2_with (refine wpList_load_row rfl 24 _ rfl _ rfl 24 c.cells (0, 0) _ HA21.out Try.underlying24 rfl (size24 c) ?_)
          refine (CL.out c _).mono ?_
          rintro e w23 ⟨rfl, hb⟩
          have HA22 := Lib.hid (HA21.out.step hb)
          have HD22 := Lib.hid (HD21.out.step hb)
          have HB22 := Lib.hid (HB21.out.trans (hb.mono HB21.out.size))
          clear hb HA21 HD21 HB21
          go_upto_region 23 with (refine wpList_store_row rfl 40 _ _ rfl _ (ints c.n) rfl rfl 40 _ (heap_alloc_new _ _) (size40 c.len) (by rw [ints_size c.n, c.len]; rfl) (ints_one _) ?_; rw [World.setRow_alloc_new])
          have hn := below_new w23 (.cells (ints c.n) 40)
          have HI23 := Lib.hid (IAt.new w23 c.n)
          have HA23 := Lib.hid (HA22.out.step hn)
          have HD23 := Lib.hid (HD22.out.step hn)
          have HB23 := Lib.hid (HB22.out.trans (hn.mono HB22.out.size))
          have hne : q20 ≠ w23.heap.size := Nat.ne_of_lt (At.lt HD22.out)
          have hge : w.heap.size ≤ w23.heap.size := HB22.out.size
          obtain ⟨W23, hW23⟩ : ∃ W23, w23.alloc (.cells (ints c.n) 40) = W23 := ⟨_, rfl⟩
          rw [hW23] at HI23 HA23 HD23 HB23 ⊢
          clear hW23 hn HA22 HD22 HB22
          generalize w23.heap.size = q22 at *
          have c1 : W23.cell? ⟨q22, k, none⟩ = some (.int .i64 (c.get k)) := HI23.out.get (k := k) (by rw [c.len]; exact hk)
          have c2 : W23.cell? ⟨q20, 17, none⟩ = some (.int .u32 c.s) := HD23.out.sec
          have c3 : W23.cell? ⟨w.heap.size, 17, none⟩ = some (.int .u32 c.s) := HA23.out.sec
          have c4 := At.frozen HI23.out k
          have HI25 : Hid (IAt (W23.setCell ⟨q22, k, none⟩ (.int .i64 n)) q22 (c.set k n).n) := Lib.hid (by
            have := At.set HI23.out k (.int .i64 n)
            rw [← ints_set] at this
            exact this)
          have HD25 : Hid (CAt (W23.setCell ⟨q22, k, none⟩ (.int .i64 n)) q20 (c.set k n)) := Lib.hid (At.far HD23.out hne _)
          have HB25 := Lib.hid (HB23.out.setCell (p := ⟨q22, k, none⟩) hge (.int .i64 n))
          have HL := Lib.hid (c.set k n).len
          clear HI23 HA23 HD23 HB23 hne hge
          go_wp2_with fail
          obtain ⟨W25, hW25⟩ : ∃ W25, W23.setCell ⟨q22, k, none⟩ (.int .i64 n) = W25 := ⟨_, rfl⟩
          rw [hW25] at HI25 HD25 HB25 ⊢
          clear hW25 c1 c2 c3 c4
          refine AnyOrder.region_kinds2 4 [.eq ((c.set k n).V), .eq (.agg (ints (c.set k n).n)), .eq (.agg (ints (c.set k n).n)), .eq (.bool true)] (fun wx => Below W25.heap.size W25 wx) (by kernel_rfl) (by kernel_rfl) rfl (by kernel_rfl) (below_drewN (Below.refl _ _) 1) (fun p _ _ hp => by simp at hp) ?_ ?_
          · intro i o listed a1 w2 hin ho st hl hdep
            match i, ho with
            | 0, ho => (injection ho with ho; subst ho; have ec : ∀ v, a1.eval (.const v) = v := fun _ => rfl; have ef : ∀ f, a1.eval (.func f) = .func (.func f) #[] #[] := fun _ => rfl; have e0 : a1.eval (.tmp 20) = ptr q20 0 := st.old hl 20 (by kernel_rfl); exact AnyOrder.step_value rfl (AnyOrder.wanted_none rfl) ((c.set k n).V) (run_load_cfg e0 (HD25.out.step st.inv)) st.inv (Below.refl _ _) rfl)
            | 1, ho => (injection ho with ho; subst ho; have ec : ∀ v, a1.eval (.const v) = v := fun _ => rfl; have ef : ∀ f, a1.eval (.func f) = .func (.func f) #[] #[] := fun _ => rfl; have e0 : a1.eval (.tmp 124) = (c.set k n).V := st.done 0 124 (hdep ⟨0, .data⟩ (by simp) rfl) rfl; exact AnyOrder.step_call rfl (AnyOrder.wanted_none rfl) 20 #[(c.set k n).V] (by generalize a1.eval = ρ at ec ef e0 ⊢; simp [execOp, ec, ef, e0, go_sem]) ((CL.out (c.set k n) _).mono (fun e w3 h => by obtain ⟨rfl, hb⟩ := h; exact ⟨_, rfl, st.inv.trans (hb.mono st.inv.size), hb, rfl⟩)))
            | 2, ho => (injection ho with ho; subst ho; have ec : ∀ v, a1.eval (.const v) = v := fun _ => rfl; have ef : ∀ f, a1.eval (.func f) = .func (.func f) #[] #[] := fun _ => rfl; have e0 : a1.eval (.tmp 22) = ptr q22 0 := st.old hl 22 (by kernel_rfl); exact AnyOrder.step_value rfl (AnyOrder.wanted_none rfl) (.agg (ints (c.set k n).n)) (run_load_ints HL.out e0 (HI25.out.step st.inv)) st.inv (Below.refl _ _) rfl)
            | 3, ho => (injection ho with ho; subst ho; have ec : ∀ v, a1.eval (.const v) = v := fun _ => rfl; have ef : ∀ f, a1.eval (.func f) = .func (.func f) #[] #[] := fun _ => rfl; have e0 : a1.eval (.tmp 125) = .agg (ints (c.set k n).n) := st.done 1 125 (hdep ⟨1, .data⟩ (by simp) rfl) rfl; have e1 : a1.eval (.tmp 126) = .agg (ints (c.set k n).n) := st.done 2 126 (hdep ⟨2, .data⟩ (by simp) rfl) rfl; exact AnyOrder.step_value rfl (AnyOrder.wanted_none rfl) (.bool true) (run_eql40 HL.out e0 e1) st.inv (Below.refl _ _) rfl)
            | n + 4, ho => exact absurd hin (by omega)
          · intro W26 hJ
            simp only [AnyOrder.finK, List.take_succ_cons, List.take_zero, List.drop_succ_cons, List.drop_zero, Act.put, List.setIfInBounds_toArray, List.set_cons_zero, List.set_cons_succ]
            go_wp2_with fail
            go_ret
            exact ⟨rfl, HB25.out.trans (hJ.mono HB25.out.size)⟩
set_option maxRecDepth 100000 in
set_option maxHeartbeats 6400000 in
theorem names_unknown (c : Cfg) (z : Int) (s : ByteArray) (n : Int) (w : World) (hm : idx s = 17) : Calls Try.prog 4 #[c.V, .int .i64 z, .string s, .int .i64 n] w fun e w' => e = .returned (.bool true) ∧ Below w.heap.size w w' := by
  obtain ⟨k, hk, hk1, hk3⟩ := at_of z
  have HK1 := Lib.hid hk1
  clear hk1 hk3
  have HA0 := Lib.hid (CAt.new w c)
  have HB0 := Lib.hid (below_new w (.cells c.cells 24))
  have CN := Lib.hid rnames_any
  have CM := Lib.hid names_any
  have CL := Lib.hid (fun (d : Cfg) W => list_any d W)
  have CGK : Hid (∀ W, Calls Try.prog 18 #[c.V, .string (nm k)] W fun e w' => e = .returned (.tuple #[.int .i64 (c.get k), .bool true]) ∧ Below W.heap.size W w') := Lib.hid (fun W => by
    have := get_yes c (nm k) W (by rw [idx_nm hk]; exact hk)
    rwa [idx_nm hk] at this)
  have CSK : Hid (∀ W, Calls Try.prog 19 #[c.V, .string (nm k), .int .i64 n] W fun e w' => e = .returned (.tuple #[(c.set k n).V, .bool true]) ∧ Below W.heap.size W w') := Lib.hid (fun W => by
    have := set_yes c (nm k) n W (by rw [idx_nm hk]; exact hk)
    rwa [idx_nm hk] at this)
  have CGN := Lib.hid (fun W => get_no c s W hm)
  have CSN := Lib.hid (fun W => set_no c s n W hm)
  have HNO := Lib.hid (fun j (h : j < idx s) => idx_not h)
  generalize idx s = m at *
  subst hm
  go_enter Try.func4, Try.ntmps4
  go_wp2_with fail
  refine (awake_any _).mono ?_
  rintro e w1 ⟨rfl, hb⟩
  have HA1 := Lib.hid (HA0.out.step hb)
  have HB1 := Lib.hid (HB0.out.trans (hb.mono HB0.out.size))
  clear hb HA0 HB0
  go_wp2_with fail
  refine (CN.out _).mono ?_
  rintro e w2 ⟨rfl, hb⟩
  have HA2 := Lib.hid (HA1.out.step hb)
  have HB2 := Lib.hid (HB1.out.trans (hb.mono HB1.out.size))
  clear hb HA1 HB1
  go_upto_region 4 with (refine wpList_store_row rfl 31 _ _ rfl _ (texts names) rfl rfl 31 _ (heap_alloc_new _ _) size31 rfl (texts_one _) ?_; rw [World.setRow_alloc_new])
  have hn := below_new w2 (.cells (texts names) 31)
  have HA3 := Lib.hid (HA2.out.step hn)
  have HT3 := Lib.hid (At.new w2 31 (texts names))
  have HB3 := Lib.hid (HB2.out.trans (hn.mono HB2.out.size))
  obtain ⟨W3, hW3⟩ : ∃ W3, w2.alloc (.cells (texts names) 31) = W3 := ⟨_, rfl⟩
  rw [hW3] at HA3 HT3 HB3 ⊢; clear hW3 hn HA2 HB2
  generalize w2.heap.size = q at *
  go_wp2_with fail
  refine (CM.out _).mono ?_
  rintro e W4 ⟨g, cap, rfl, hcap, hg, hcells, hb⟩
  have HA4 := Lib.hid (HA3.out.step hb).all
  have HT4 := Lib.hid (fun W (h : Below W4.heap.size W4 W) k (hk : k < 17) => show W.cell? ⟨q, k, none⟩ = some (.string (nm k)) by
    have := At.below (HT3.out.below hb HT3.out.lt) h (At.lt (HT3.out.below hb HT3.out.lt))
    rw [this.cell, texts_at hk])
  have HG4 := Lib.hid (fun W (h : Below W4.heap.size W4 W) k (hk : k < 17) => show W.cell? ⟨g, k, none⟩ = some (.string (nm k)) by
    rw [h.cell (p := ⟨g, k, none⟩) hg]; exact hcells k hk)
  have HB4 := Lib.hid (HB3.out.trans (hb.mono HB3.out.size))
  have hcap' : (17 : Int) ≤ (cap : Int) := by omega
  clear hb hcells HA3 HT3 HB3 hg
  go_wp2_with fail
  go_loopg [11, 12] 17 (fun gh s11 s12 wx => ∃ j : Nat, j ≤ 17 ∧ gh = 17 - j ∧ s12 = .int .i64 (j : Int) ∧ s11 = .bool (decide (17 < j)) ∧ Below W4.heap.size W4 wx)
  case atStart => exact ⟨0, Nat.zero_le _, rfl, rfl, by simp, Below.refl _ _⟩
  case round =>
    obtain ⟨j, hj, hgh, rfl, rfl, hcur⟩ := hrel
    have HG := Lib.hid hgh; clear hgh
    by_cases hlt : j < 17
    · have k1 := HG4.out wr hcur j hlt
      have k2 := HT4.out wr hcur j hlt
      have b0 : (0 : Int) ≤ (j : Int) := by omega
      have b1 : (j : Int) < 17 := by omega
      have HC := Lib.hid hcur
      clear hcur
      have d1 : decide (17 < j) = false := by simp; omega
      rw [d1]
      have d2 : decide (17 < j + 1) = false := by simp; omega
      have D2 := Lib.hid d2
      have hs : (s.toList == (nm j).toList) = false := text_ne (fun e => HNO.out j (by omega) e.symm)
      clear d1 d2
      generalize nm j = x at *
      go_wp2_with fail
      go_quiet (fail)
      go_wp2_with fail
      go_roundg (17 - (j + 1))
      case measure => have := HG.out; omega
      case rel => exact ⟨j + 1, by omega, rfl, by go_num, by rw [D2.out], below_drewN HC.out _⟩
    · obtain rfl : j = 17 := by omega
      have d1 : decide ((17 : Nat) < 17) = false := by decide
      rw [d1]; clear d1
      go_wp2_with (refine wpList_load_rowG rfl 24 (.tmp 4) rfl _ rfl 24 c.cells (0, 0) _ (HA4.out _ hcur) Try.underlying24 rfl (size24 c) ?_)
      refine (CGN.out _).mono ?_
      rintro e v1 ⟨rfl, hb⟩
      replace hcur := hcur.trans (hb.mono hcur.size)
      clear hb
      go_wp2_with (refine wpList_load_rowG rfl 24 (.tmp 4) rfl _ rfl 24 c.cells (0, 0) _ (HA4.out _ hcur) Try.underlying24 rfl (size24 c) ?_)
      refine (CSN.out _).mono ?_
      rintro e v2 ⟨rfl, hb⟩
      replace hcur := hcur.trans (hb.mono hcur.size)
      clear hb
      go_upto_region 17 with (refine wpList_store_row rfl 24 _ _ rfl _ c.cells rfl rfl 24 _ (heap_alloc_new _ _) (size24 c) (by rw [c.size]; rfl) c.one ?_; rw [World.setRow_alloc_new])
      have hn := below_new v2 (.cells c.cells 24)
      have HD := Lib.hid (CAt.new v2 c)
      replace hcur := hcur.trans (hn.mono hcur.size)
      obtain ⟨W, hW⟩ : ∃ W, v2.alloc (.cells c.cells 24) = W := ⟨_, rfl⟩
      rw [hW] at HD hcur ⊢; clear hW hn
      generalize v2.heap.size = q15 at *
      go_wp2_with (first | (refine wpList_load_rowG rfl 24 (.tmp 4) rfl _ rfl 24 c.cells (0, 0) _ (HA4.out _ hcur) Try.underlying24 rfl (size24 c) ?_) | (refine wpList_load_rowG rfl 24 (.tmp 15) rfl _ rfl 24 c.cells (0, 0) _ HD.out Try.underlying24 rfl (size24 c) ?_) | (refine wpList_run rfl (.bool false) (run_neq24 (c := c) rfl rfl) ?_))
      rw [HK1.out]
      clear HD
      have b0 : (0 : Int) ≤ (k : Int) := by omega
      have b1 : (k : Int) < 17 := by omega
      have HA := Lib.hid (HA4.out _ hcur)
      have HB := Lib.hid (HB4.out.trans (hcur.mono HB4.out.size))
      have HC := Lib.hid hcur
      clear hcur
      refine AnyOrder.region_kinds2 9 [.eq (c.V), .eq (.int .i64 (k : Int)), .eq (ptr q k), .eq (.string (nm k)), .eq (.tuple #[.int .i64 (c.get k), .bool true]), .eq (.tuple #[.int .i64 (c.get k), .bool true]), .eq (.int .i64 (c.get k)), .eq (.bool true), .eq (.int .i64 (c.get k))] (fun wx => Below W.heap.size W wx) (by kernel_rfl) (by kernel_rfl) rfl (by kernel_rfl) (below_drewN (Below.refl _ _) 1) (fun p _ _ hp => by simp at hp) ?_ ?_
      · intro i o listed a1 w2 hin ho st hl hdep
        match i, ho with
        | 0, ho => (injection ho with ho; subst ho; have ec : ∀ v, a1.eval (.const v) = v := fun _ => rfl; have ef : ∀ f, a1.eval (.func f) = .func (.func f) #[] #[] := fun _ => rfl; have e0 : a1.eval (.tmp 4) = ptr w.heap.size 0 := st.old hl 4 (by kernel_rfl); exact AnyOrder.step_value rfl (AnyOrder.wanted_none rfl) (c.V) (run_load_cfg e0 (HA.out.step st.inv)) st.inv (Below.refl _ _) rfl)
        | 1, ho => (injection ho with ho; subst ho; have ec : ∀ v, a1.eval (.const v) = v := fun _ => rfl; have ef : ∀ f, a1.eval (.func f) = .func (.func f) #[] #[] := fun _ => rfl; have e0 : a1.eval (.tmp 17) = .int .i64 (k : Int) := st.old hl 17 (by kernel_rfl); exact AnyOrder.step_value rfl (AnyOrder.wanted_none rfl) (.int .i64 (k : Int)) (AnyOrder.run_move e0) st.inv (Below.refl _ _) rfl)
        | 2, ho => (injection ho with ho; subst ho; have ec : ∀ v, a1.eval (.const v) = v := fun _ => rfl; have ef : ∀ f, a1.eval (.func f) = .func (.func f) #[] #[] := fun _ => rfl; have e0 : a1.eval (.tmp 9) = ptr q 0 := st.old hl 9 (by kernel_rfl); have e1 : a1.eval (.tmp 84) = .int .i64 (k : Int) := st.done 1 84 (hdep ⟨1, .data⟩ (by simp) rfl) rfl; exact AnyOrder.step_value rfl (AnyOrder.wanted_none rfl) (ptr q k) (by generalize a1.eval = ρ at ec ef e0 e1 ⊢; simp [execOp, ec, ef, e0, e1, IntWalk.i64_left, b0, b1, go_sem]) st.inv (Below.refl _ _) rfl)
        | 3, ho => (injection ho with ho; subst ho; have ec : ∀ v, a1.eval (.const v) = v := fun _ => rfl; have ef : ∀ f, a1.eval (.func f) = .func (.func f) #[] #[] := fun _ => rfl; have e0 : a1.eval (.tmp 85) = ptr q k := st.done 2 85 (hdep ⟨2, .data⟩ (by simp) rfl) rfl; exact AnyOrder.step_value rfl (AnyOrder.wanted_none rfl) (.string (nm k)) (by generalize a1.eval = ρ at ec ef e0 ⊢; simp [execOp, ec, ef, e0, IntWalk.i64_left, HT4.out _ (HC.out.trans (st.inv.mono HC.out.size)) k hk, go_sem]) st.inv (Below.refl _ _) rfl)
        | 4, ho => (injection ho with ho; subst ho; have ec : ∀ v, a1.eval (.const v) = v := fun _ => rfl; have ef : ∀ f, a1.eval (.func f) = .func (.func f) #[] #[] := fun _ => rfl; have e0 : a1.eval (.tmp 83) = c.V := st.done 0 83 (hdep ⟨0, .data⟩ (by simp) rfl) rfl; have e1 : a1.eval (.tmp 86) = .string (nm k) := st.done 3 86 (hdep ⟨3, .data⟩ (by simp) rfl) rfl; exact AnyOrder.step_call rfl (AnyOrder.wanted_none rfl) 18 #[c.V, .string (nm k)] (by generalize a1.eval = ρ at ec ef e0 e1 ⊢; simp [execOp, ec, ef, e0, e1, go_sem]) ((CGK.out _).mono (fun e w3 h => by obtain ⟨rfl, hb⟩ := h; exact ⟨_, rfl, st.inv.trans (hb.mono st.inv.size), hb, rfl⟩)))
        | 5, ho => (injection ho with ho; subst ho; have ec : ∀ v, a1.eval (.const v) = v := fun _ => rfl; have ef : ∀ f, a1.eval (.func f) = .func (.func f) #[] #[] := fun _ => rfl; have e0 : a1.eval (.tmp 87) = .tuple #[.int .i64 (c.get k), .bool true] := st.done 4 87 (hdep ⟨4, .data⟩ (by simp) rfl) rfl; exact AnyOrder.step_value rfl (AnyOrder.wanted_none rfl) (.tuple #[.int .i64 (c.get k), .bool true]) (AnyOrder.run_move e0) st.inv (Below.refl _ _) rfl)
        | 6, ho => (injection ho with ho; subst ho; have ec : ∀ v, a1.eval (.const v) = v := fun _ => rfl; have ef : ∀ f, a1.eval (.func f) = .func (.func f) #[] #[] := fun _ => rfl; have e0 : a1.eval (.tmp 82) = .tuple #[.int .i64 (c.get k), .bool true] := st.done 5 82 (hdep ⟨5, .data⟩ (by simp) rfl) rfl; exact AnyOrder.step_value rfl (AnyOrder.wanted_none rfl) (.int .i64 (c.get k)) (by generalize a1.eval = ρ at ec ef e0 ⊢; simp [execOp, ec, ef, e0, IntWalk.i64_left, go_sem]) st.inv (Below.refl _ _) rfl)
        | 7, ho => (injection ho with ho; subst ho; have ec : ∀ v, a1.eval (.const v) = v := fun _ => rfl; have ef : ∀ f, a1.eval (.func f) = .func (.func f) #[] #[] := fun _ => rfl; have e0 : a1.eval (.tmp 82) = .tuple #[.int .i64 (c.get k), .bool true] := st.done 5 82 (hdep ⟨5, .data⟩ (by simp) rfl) rfl; exact AnyOrder.step_value rfl (AnyOrder.wanted_none rfl) (.bool true) (by generalize a1.eval = ρ at ec ef e0 ⊢; simp [execOp, ec, ef, e0, IntWalk.i64_left, go_sem]) st.inv (Below.refl _ _) rfl)
        | 8, ho => (injection ho with ho; subst ho; have ec : ∀ v, a1.eval (.const v) = v := fun _ => rfl; have ef : ∀ f, a1.eval (.func f) = .func (.func f) #[] #[] := fun _ => rfl; have e0 : a1.eval (.tmp 88) = .int .i64 (c.get k) := st.done 6 88 (hdep ⟨6, .data⟩ (by simp) rfl) rfl; exact AnyOrder.step_value rfl (AnyOrder.wanted_none rfl) (.int .i64 (c.get k)) (by generalize a1.eval = ρ at ec ef e0 ⊢; simp [execOp, ec, ef, e0, IntWalk.i64_left, go_sem]) st.inv (Below.refl _ _) rfl)
        | n + 9, ho => exact absurd hin (by omega)
      · intro W20 hJ
        simp only [AnyOrder.finK, List.take_succ_cons, List.take_zero, List.drop_succ_cons, List.drop_zero, Act.put, List.setIfInBounds_toArray, List.set_cons_zero, List.set_cons_succ]
        have HA20 := Lib.hid (HA.out.step hJ)
        have HB20 := Lib.hid (HB.out.trans (hJ.mono HB.out.size))
        have HC20 := Lib.hid (HC.out.trans (hJ.mono HC.out.size))
        clear hJ HA HB HC
        go_wp2_with fail
        refine AnyOrder.region_store 10 [.eq (c.V), .eq (.int .i64 (k : Int)), .eq (ptr q k), .eq (.string (nm k)), .eq (.int .i64 n), .eq (.tuple #[(c.set k n).V, .bool true]), .eq (.tuple #[(c.set k n).V, .bool true]), .eq ((c.set k n).V), .eq (.bool true), .of (AnyOrder.Fresh W20 24 zc.cells)] (fun wx => Below W20.heap.size W20 wx) 8 90 6 98 20 97 24 (.tuple #[(c.set k n).V, .bool true]) (.bool true) _ _ (by kernel_rfl) (by kernel_rfl) rfl (by kernel_rfl) rfl rfl (by decide) rfl rfl rfl rfl rfl (by decide) rfl rfl rfl (fun ρ w e => by simp [execOp, e, go_sem]) (below_drewN (Below.refl _ _) 1) (fun p w w2 hp _ hb v hv => by simp at hp; subst hp; exact AnyOrder.Fresh.keep hv hb) ?_ ?_
        · intro i o listed a1 w2 hin ho st hl hdep
          match i, ho with
          | 0, ho => (injection ho with ho; subst ho; have ec : ∀ v, a1.eval (.const v) = v := fun _ => rfl; have ef : ∀ f, a1.eval (.func f) = .func (.func f) #[] #[] := fun _ => rfl; have e0 : a1.eval (.tmp 4) = ptr w.heap.size 0 := st.old hl 4 (by kernel_rfl); exact AnyOrder.step_value rfl (AnyOrder.wanted_none rfl) (c.V) (run_load_cfg e0 (HA20.out.step st.inv)) st.inv (Below.refl _ _) rfl)
          | 1, ho => (injection ho with ho; subst ho; have ec : ∀ v, a1.eval (.const v) = v := fun _ => rfl; have ef : ∀ f, a1.eval (.func f) = .func (.func f) #[] #[] := fun _ => rfl; have e0 : a1.eval (.tmp 17) = .int .i64 (k : Int) := st.old hl 17 (by kernel_rfl); exact AnyOrder.step_value rfl (AnyOrder.wanted_none rfl) (.int .i64 (k : Int)) (AnyOrder.run_move e0) st.inv (Below.refl _ _) rfl)
          | 2, ho => (injection ho with ho; subst ho; have ec : ∀ v, a1.eval (.const v) = v := fun _ => rfl; have ef : ∀ f, a1.eval (.func f) = .func (.func f) #[] #[] := fun _ => rfl; have e0 : a1.eval (.tmp 9) = ptr q 0 := st.old hl 9 (by kernel_rfl); have e1 : a1.eval (.tmp 92) = .int .i64 (k : Int) := st.done 1 92 (hdep ⟨1, .data⟩ (by simp) rfl) rfl; exact AnyOrder.step_value rfl (AnyOrder.wanted_none rfl) (ptr q k) (by generalize a1.eval = ρ at ec ef e0 e1 ⊢; simp [execOp, ec, ef, e0, e1, IntWalk.i64_left, b0, b1, go_sem]) st.inv (Below.refl _ _) rfl)
          | 3, ho => (injection ho with ho; subst ho; have ec : ∀ v, a1.eval (.const v) = v := fun _ => rfl; have ef : ∀ f, a1.eval (.func f) = .func (.func f) #[] #[] := fun _ => rfl; have e0 : a1.eval (.tmp 93) = ptr q k := st.done 2 93 (hdep ⟨2, .data⟩ (by simp) rfl) rfl; exact AnyOrder.step_value rfl (AnyOrder.wanted_none rfl) (.string (nm k)) (by generalize a1.eval = ρ at ec ef e0 ⊢; simp [execOp, ec, ef, e0, IntWalk.i64_left, HT4.out _ (HC20.out.trans (st.inv.mono HC20.out.size)) k hk, go_sem]) st.inv (Below.refl _ _) rfl)
          | 4, ho => (injection ho with ho; subst ho; have ec : ∀ v, a1.eval (.const v) = v := fun _ => rfl; have ef : ∀ f, a1.eval (.func f) = .func (.func f) #[] #[] := fun _ => rfl; have e0 : a1.eval (.tmp 3) = .int .i64 n := st.old hl 3 (by kernel_rfl); exact AnyOrder.step_value rfl (AnyOrder.wanted_none rfl) (.int .i64 n) (AnyOrder.run_move e0) st.inv (Below.refl _ _) rfl)
          | 5, ho => (injection ho with ho; subst ho; have ec : ∀ v, a1.eval (.const v) = v := fun _ => rfl; have ef : ∀ f, a1.eval (.func f) = .func (.func f) #[] #[] := fun _ => rfl; have e0 : a1.eval (.tmp 91) = c.V := st.done 0 91 (hdep ⟨0, .data⟩ (by simp) rfl) rfl; have e1 : a1.eval (.tmp 94) = .string (nm k) := st.done 3 94 (hdep ⟨3, .data⟩ (by simp) rfl) rfl; have e2 : a1.eval (.tmp 95) = .int .i64 n := st.done 4 95 (hdep ⟨4, .data⟩ (by simp) rfl) rfl; exact AnyOrder.step_call rfl (AnyOrder.wanted_none rfl) 19 #[c.V, .string (nm k), .int .i64 n] (by generalize a1.eval = ρ at ec ef e0 e1 e2 ⊢; simp [execOp, ec, ef, e0, e1, e2, go_sem]) ((CSK.out _).mono (fun e w3 h => by obtain ⟨rfl, hb⟩ := h; exact ⟨_, rfl, st.inv.trans (hb.mono st.inv.size), hb, rfl⟩)))
          | 6, ho => (injection ho with ho; subst ho; have ec : ∀ v, a1.eval (.const v) = v := fun _ => rfl; have ef : ∀ f, a1.eval (.func f) = .func (.func f) #[] #[] := fun _ => rfl; have e0 : a1.eval (.tmp 96) = .tuple #[(c.set k n).V, .bool true] := st.done 5 96 (hdep ⟨5, .data⟩ (by simp) rfl) rfl; exact AnyOrder.step_value rfl (AnyOrder.wanted_none rfl) (.tuple #[(c.set k n).V, .bool true]) (AnyOrder.run_move e0) st.inv (Below.refl _ _) rfl)
          | 7, ho => (injection ho with ho; subst ho; have ec : ∀ v, a1.eval (.const v) = v := fun _ => rfl; have ef : ∀ f, a1.eval (.func f) = .func (.func f) #[] #[] := fun _ => rfl; have e0 : a1.eval (.tmp 90) = .tuple #[(c.set k n).V, .bool true] := st.done 6 90 (hdep ⟨6, .data⟩ (by simp) rfl) rfl; exact AnyOrder.step_value rfl (AnyOrder.wanted_none rfl) ((c.set k n).V) (by generalize a1.eval = ρ at ec ef e0 ⊢; simp [execOp, ec, ef, e0, IntWalk.i64_left, go_sem]) st.inv (Below.refl _ _) rfl)
          | 8, ho => (injection ho with ho; subst ho; have ec : ∀ v, a1.eval (.const v) = v := fun _ => rfl; have ef : ∀ f, a1.eval (.func f) = .func (.func f) #[] #[] := fun _ => rfl; have e0 : a1.eval (.tmp 90) = .tuple #[(c.set k n).V, .bool true] := st.done 6 90 (hdep ⟨6, .data⟩ (by simp) rfl) rfl; exact AnyOrder.step_value rfl (AnyOrder.wanted_none rfl) (.bool true) (by generalize a1.eval = ρ at ec ef e0 ⊢; simp [execOp, ec, ef, e0, IntWalk.i64_left, go_sem]) st.inv (Below.refl _ _) rfl)
          | 9, ho => (injection ho with ho; subst ho; have ec : ∀ v, a1.eval (.const v) = v := fun _ => rfl; have ef : ∀ f, a1.eval (.func f) = .func (.func f) #[] #[] := fun _ => rfl; exact AnyOrder.step_value rfl (AnyOrder.wanted_none rfl) (ptr w2.heap.size 0) run_alloc24 (st.inv.alloc st.inv.size _) (below_new _ _) ⟨_, rfl, st.inv.size, by simp, heap_alloc_new _ _⟩)
          | n + 10, ho => exact absurd hin (by omega)
        · intro W21 hJ
          simp only [AnyOrder.finK, List.take_succ_cons, List.take_zero, List.drop_succ_cons, List.drop_zero, Act.put, List.setIfInBounds_toArray, List.set_cons_zero, List.set_cons_succ]
          rintro v ⟨q20, rfl, hq1, hq2, hq3⟩
          refine ⟨W21.setRow q20 (c.set k n).cells, run_store_cfg rfl rfl hq3, ?_⟩
          have hbel : Below W20.heap.size W20 (W21.setRow q20 (c.set k n).cells) := below_setRow hJ hq1 _
          have HA21 := Lib.hid (HA20.out.step hbel)
          have HD21 := Lib.hid (CAt.setRow (c := zc) hq3 (c.set k n))
          have HB21 := Lib.hid (HB20.out.trans (hbel.mono HB20.out.size))
          obtain ⟨W22, hW22⟩ : ∃ W22, W21.setRow q20 (c.set k n).cells = W22 := ⟨_, rfl⟩
          rw [hW22] at HA21 HD21 HB21 ⊢
          clear hW22 hbel hJ hq1 hq2 hq3 HA20 HB20 HC20
          go_wp2_with (refine wpList_load_row rfl 24 _ rfl _ rfl 24 c.cells (0, 0) _ HA21.out Try.underlying24 rfl (size24 c) ?_)
          refine (CL.out c _).mono ?_
          rintro e w23 ⟨rfl, hb⟩
          have HA22 := Lib.hid (HA21.out.step hb)
          have HD22 := Lib.hid (HD21.out.step hb)
          have HB22 := Lib.hid (HB21.out.trans (hb.mono HB21.out.size))
          clear hb HA21 HD21 HB21
          go_upto_region 23 with (refine wpList_store_row rfl 40 _ _ rfl _ (ints c.n) rfl rfl 40 _ (heap_alloc_new _ _) (size40 c.len) (by rw [ints_size c.n, c.len]; rfl) (ints_one _) ?_; rw [World.setRow_alloc_new])
          have hn := below_new w23 (.cells (ints c.n) 40)
          have HI23 := Lib.hid (IAt.new w23 c.n)
          have HA23 := Lib.hid (HA22.out.step hn)
          have HD23 := Lib.hid (HD22.out.step hn)
          have HB23 := Lib.hid (HB22.out.trans (hn.mono HB22.out.size))
          have hne : q20 ≠ w23.heap.size := Nat.ne_of_lt (At.lt HD22.out)
          have hge : w.heap.size ≤ w23.heap.size := HB22.out.size
          obtain ⟨W23, hW23⟩ : ∃ W23, w23.alloc (.cells (ints c.n) 40) = W23 := ⟨_, rfl⟩
          rw [hW23] at HI23 HA23 HD23 HB23 ⊢
          clear hW23 hn HA22 HD22 HB22
          generalize w23.heap.size = q22 at *
          have c1 : W23.cell? ⟨q22, k, none⟩ = some (.int .i64 (c.get k)) := HI23.out.get (k := k) (by rw [c.len]; exact hk)
          have c2 : W23.cell? ⟨q20, 17, none⟩ = some (.int .u32 c.s) := HD23.out.sec
          have c3 : W23.cell? ⟨w.heap.size, 17, none⟩ = some (.int .u32 c.s) := HA23.out.sec
          have c4 := At.frozen HI23.out k
          have HI25 : Hid (IAt (W23.setCell ⟨q22, k, none⟩ (.int .i64 n)) q22 (c.set k n).n) := Lib.hid (by
            have := At.set HI23.out k (.int .i64 n)
            rw [← ints_set] at this
            exact this)
          have HD25 : Hid (CAt (W23.setCell ⟨q22, k, none⟩ (.int .i64 n)) q20 (c.set k n)) := Lib.hid (At.far HD23.out hne _)
          have HB25 := Lib.hid (HB23.out.setCell (p := ⟨q22, k, none⟩) hge (.int .i64 n))
          have HL := Lib.hid (c.set k n).len
          clear HI23 HA23 HD23 HB23 hne hge
          go_wp2_with fail
          obtain ⟨W25, hW25⟩ : ∃ W25, W23.setCell ⟨q22, k, none⟩ (.int .i64 n) = W25 := ⟨_, rfl⟩
          rw [hW25] at HI25 HD25 HB25 ⊢
          clear hW25 c1 c2 c3 c4
          refine AnyOrder.region_kinds2 4 [.eq ((c.set k n).V), .eq (.agg (ints (c.set k n).n)), .eq (.agg (ints (c.set k n).n)), .eq (.bool true)] (fun wx => Below W25.heap.size W25 wx) (by kernel_rfl) (by kernel_rfl) rfl (by kernel_rfl) (below_drewN (Below.refl _ _) 1) (fun p _ _ hp => by simp at hp) ?_ ?_
          · intro i o listed a1 w2 hin ho st hl hdep
            match i, ho with
            | 0, ho => (injection ho with ho; subst ho; have ec : ∀ v, a1.eval (.const v) = v := fun _ => rfl; have ef : ∀ f, a1.eval (.func f) = .func (.func f) #[] #[] := fun _ => rfl; have e0 : a1.eval (.tmp 20) = ptr q20 0 := st.old hl 20 (by kernel_rfl); exact AnyOrder.step_value rfl (AnyOrder.wanted_none rfl) ((c.set k n).V) (run_load_cfg e0 (HD25.out.step st.inv)) st.inv (Below.refl _ _) rfl)
            | 1, ho => (injection ho with ho; subst ho; have ec : ∀ v, a1.eval (.const v) = v := fun _ => rfl; have ef : ∀ f, a1.eval (.func f) = .func (.func f) #[] #[] := fun _ => rfl; have e0 : a1.eval (.tmp 124) = (c.set k n).V := st.done 0 124 (hdep ⟨0, .data⟩ (by simp) rfl) rfl; exact AnyOrder.step_call rfl (AnyOrder.wanted_none rfl) 20 #[(c.set k n).V] (by generalize a1.eval = ρ at ec ef e0 ⊢; simp [execOp, ec, ef, e0, go_sem]) ((CL.out (c.set k n) _).mono (fun e w3 h => by obtain ⟨rfl, hb⟩ := h; exact ⟨_, rfl, st.inv.trans (hb.mono st.inv.size), hb, rfl⟩)))
            | 2, ho => (injection ho with ho; subst ho; have ec : ∀ v, a1.eval (.const v) = v := fun _ => rfl; have ef : ∀ f, a1.eval (.func f) = .func (.func f) #[] #[] := fun _ => rfl; have e0 : a1.eval (.tmp 22) = ptr q22 0 := st.old hl 22 (by kernel_rfl); exact AnyOrder.step_value rfl (AnyOrder.wanted_none rfl) (.agg (ints (c.set k n).n)) (run_load_ints HL.out e0 (HI25.out.step st.inv)) st.inv (Below.refl _ _) rfl)
            | 3, ho => (injection ho with ho; subst ho; have ec : ∀ v, a1.eval (.const v) = v := fun _ => rfl; have ef : ∀ f, a1.eval (.func f) = .func (.func f) #[] #[] := fun _ => rfl; have e0 : a1.eval (.tmp 125) = .agg (ints (c.set k n).n) := st.done 1 125 (hdep ⟨1, .data⟩ (by simp) rfl) rfl; have e1 : a1.eval (.tmp 126) = .agg (ints (c.set k n).n) := st.done 2 126 (hdep ⟨2, .data⟩ (by simp) rfl) rfl; exact AnyOrder.step_value rfl (AnyOrder.wanted_none rfl) (.bool true) (run_eql40 HL.out e0 e1) st.inv (Below.refl _ _) rfl)
            | n + 4, ho => exact absurd hin (by omega)
          · intro W26 hJ
            simp only [AnyOrder.finK, List.take_succ_cons, List.take_zero, List.drop_succ_cons, List.drop_zero, Act.put, List.setIfInBounds_toArray, List.set_cons_zero, List.set_cons_succ]
            go_wp2_with fail
            go_ret
            exact ⟨rfl, HB25.out.trans (hJ.mono HB25.out.size)⟩
theorem siteNames_walk (c : Cfg) (z : Int) (s : ByteArray) (n : Int) (w : World) (_ : inI64 z) (_ : s.size ≤ maxLen) (_ : inI64 n) : Calls Try.prog 4 #[c.V, .int .i64 z, .string s, .int .i64 n] w fun e w' => e = .returned (.bool true) ∧ Below w.heap.size w w' := by
  by_cases h : idx s < 17
  · exact names_known c z s n w h
  · exact names_unknown c z s n w (by have := idx_le s; omega)
end Go.Proofs.Ythnjghkloodblaa
