/- Num, and the function 'number' of the statements, once more: what stood there before still stands. -/
import Derived.Test.YtoijipahcpdhcaaOutK
namespace Go.Proofs.Ytoijipahcpdhcaa
open Go.RowKit Go.Lib Plain

theorem own_prefix2 {w w' : World} {B p : Nat} {v v1 : Value} {bs pre : List UInt8} (h : Own w B v bs) (h1 : Own w B v1 (bs ++ pre)) (hc : Chg w w' (outSet p v1)) (hp : v.ownBlock ≠ some p) (h1' : Own w' B v1 (bs ++ pre)) : Own w' B v bs := by
  by_cases he : ∃ g, v.ownBlock = some g ∧ v1.ownBlock = some g
  · obtain ⟨g, hv, hv1⟩ := he
    rcases h.2 with ⟨rfl, h0⟩ | ⟨g', cap, cur, rfl, hbg, hg, hnc, hcm, hcs, htake⟩
    · simp [Value.ownBlock] at hv
    · rcases h1.2 with ⟨rfl, _⟩ | ⟨g1, cap1, cur1, hv1', _, hg1, _, _, hcs1, _⟩
      · simp [Value.ownBlock] at hv1
      · subst hv1'
        have eg : g' = g := by simpa [Value.ownBlock] using hv
        have eg1 : g1 = g := by simpa [Value.ownBlock] using hv1
        subst eg1 eg
        rw [hg] at hg1
        injection hg1 with hg1
        injection hg1 with hg1
        subst hg1
        have ec : cap1 = cap := by omega
        subst ec
        rcases h1'.2 with ⟨e9, _⟩ | ⟨g2, cap2, cur2, hv2, _, hg2, _, _, hcs2, ht2⟩
        · cases e9
        · injection hv2 with e1 e2 e3
          injection e1 with e1
          injection e1 with e1
          subst e1 e3
          refine ⟨h.1, .inr ⟨g', cap1, cur2, rfl, hbg, hg2, hnc, hcm, hcs2, ?_⟩⟩
          have e5 : cur2.toList.take (bs.length * 1) = (cur2.toList.take ((bs ++ pre).length * 1)).take (bs.length * 1) := by
            rw [List.take_take]; congr 1; rw [List.length_append]; omega
          rw [e5, ht2, byteCells_append, List.take_append_of_le_length (by rw [byteCells_length]; omega), List.take_of_length_le (by rw [byteCells_length]; omega)]
  · refine own_chg h hc ?_
    rintro k hk (e | e)
    · subst e; exact hp hk
    · exact he ⟨k, hk, e⟩

set_option maxRecDepth 100000 in
set_option maxHeartbeats 1600000 in
theorem num_some_keep (B p b off cap : Nat) (v : Value) (bs : List UInt8) (wd : Int) (ns : List Int) (w : World) (ho : Out w B p v bs) (hB : B ≤ w.heap.size)
    (hc : ∀ i, i < ns.length → w.cell? ⟨b, off + i, none⟩ = some (.int .i64 (ns.getD i 0))) (hr : ∀ n ∈ ns, inI64 n) (hl : bs.length ≤ 1000000000) (hn : ns.length ≤ 1000) (hbs : ¬ outSet p v b) (hw : wide wd = true) :
    Calls Try.prog 10 #[.pointer (some ⟨p, 0, none⟩), .int .i64 wd, .slice (some ⟨b, off, none⟩) ns.length cap] w fun e w' => e = .returned (.bool (okNums wd ns)) ∧ Wrote w B p v (numd wd ns bs) w' ∧ Own w' B v bs := by
  have HC := Lib.hid hc; have HR := Lib.hid hr; have HW := Lib.hid hw; clear hc hr hw
  have HO := Lib.hid ho; clear ho
  go_enter Try.func10, Try.ntmps10
  go_wp2_with (go_at_call 28; refine (isWidth_yes _ _ HW.out).mono ?_; rintro e w' ⟨rfl, rfl⟩)
  go_loopg [20] ns.length (fun g si wx => w = wx ∧ ∃ j : Nat, j ≤ ns.length ∧ g = ns.length - j ∧ si = .int .i64 (j : Int) ∧ (ns.take j).all (fit wd) = true)
  case atStart => exact ⟨rfl, 0, Nat.zero_le _, rfl, rfl, by simp⟩
  case round =>
    obtain ⟨rfl, j, hj, hg, rfl, hall⟩ := hrel
    have HG := Lib.hid hg; have HA := Lib.hid hall; clear hg hall
    by_cases hlt : j < ns.length
    · have hcell := HC.out j hlt
      have hm : ns.getD j 0 ∈ ns := by simp [hlt]
      have hrj := HR.out _ hm
      have htk : (ns.take (j + 1)).all (fit wd) = fit wd (ns.getD j 0) := by
        rw [List.take_succ_eq_append_getElem hlt, List.all_append, HA.out]; simp [hlt]
      have HTK := Lib.hid htk; have HM := Lib.hid hm; have HRJ := Lib.hid hrj; clear htk hm hrj
      generalize ns.getD j 0 = x at hcell HTK HM HRJ
      by_cases hf : fit wd x = true
      · have HF := Lib.hid hf; clear hf
        go_wp2_with (go_at_call 29; refine (fits_any _ _ _ HW.out HRJ.out.2 HRJ.out.1).mono ?_; rintro e w' ⟨rfl, rfl⟩; rw [HF.out])
        go_roundg (ns.length - (j + 1))
        case measure => have := HG.out; omega
        case rel => exact ⟨rfl, j + 1, by omega, rfl, by go_num, by rw [HTK.out, HF.out]⟩
      · have hf' : fit wd x = false := by simpa using hf
        have HF := Lib.hid hf'; clear hf hf'
        go_wp2_with (go_at_call 29; refine (fits_any _ _ _ HW.out HRJ.out.2 HRJ.out.1).mono ?_; rintro e w' ⟨rfl, rfl⟩; rw [HF.out])
        go_ret
        have hk : okNums wd ns = false := by
          unfold okNums
          have : ns.all (fit wd) = false := by
            rw [List.all_eq_false]
            exact ⟨x, HM.out, by rw [HF.out]; decide⟩
          rw [this]; simp
        rw [hk, numd_no _ hk]
        exact ⟨rfl, Wrote.refl HO.out, HO.out.own⟩
    · have hk : okNums wd ns = true := by
        unfold okNums
        have := HA.out
        rw [List.take_of_length_le (by omega)] at this
        rw [HW.out, this]; rfl
      have HK := Lib.hid hk; clear hk
      go_wp2_with fail
      go_loopg [31] ns.length (fun g si wx => ∃ j : Nat, j ≤ ns.length ∧ g = ns.length - j ∧ si = .int .i64 (j : Int) ∧ ∃ v1, Out wx B p v1 (bs ++ nums wd (ns.take j)) ∧ Chg w wx (outSet p v) ∧ Lies w v v1 ∧ Own wx B v bs)
      case atStart => exact ⟨0, Nat.zero_le _, rfl, rfl, v, by simpa [nums] using HO.out, Chg.refl _ _, Lies.refl _ _, HO.out.own⟩
      case round =>
        obtain ⟨i, hi, hg2, rfl, v1, ho1, hc1, hl1, hk1⟩ := hrel
        have HG2 := Lib.hid hg2; have HKP := Lib.hid hk1; clear hg2 hk1
        by_cases hlt2 : i < ns.length
        · have hcell := HC.out i hlt2
          have hbl : b < w.heap.size := World.block_lt_of_cell? w _ hcell
          have hcell2 : wr.cell? ⟨b, off + i, none⟩ = some (.int .i64 (ns.getD i 0)) := (World.cell?_of_block (hc1.block b hbl hbs)).trans hcell
          clear hcell
          have hm : ns.getD i 0 ∈ ns := by simp [hlt2]
          have hrj := HR.out _ hm
          have hfi : fit wd (ns.getD i 0) = true := by
            have := HK.out
            unfold okNums at this
            simp only [Bool.and_eq_true, List.all_eq_true] at this
            exact this.2 _ hm
          have hst := nums_take wd ns i hlt2
          have hlen : (bs ++ nums wd (ns.take i)).length ≤ 1000100000 := by
            rw [List.length_append, nums_length, List.length_take]
            have h8 : wd.toNat ≤ 8 := by have := (wide_iff wd).1 HW.out; omega
            have : min i ns.length * wd.toNat ≤ 1000 * 8 := Nat.mul_le_mul (by omega) h8
            omega
          have HLEN := Lib.hid hlen; have HST := Lib.hid hst; have HF := Lib.hid hfi; have HRJ := Lib.hid hrj; clear hlen hst hfi hm hrj
          have HO1 := Lib.hid ho1; have HC1 := Lib.hid hc1; have HL1 := Lib.hid hl1; clear ho1 hc1 hl1
          generalize ns.getD i 0 = x at hcell2 HST HF HRJ
          obtain ⟨k, hk⟩ : ∃ k : Nat, wd = (k : Int) := ⟨wd.toNat, by have := (wide_iff wd).1 HW.out; omega⟩
          subst hk
          go_wp2_with fail
          refine (put_keep B p k v1 _ x _ HO1.out (by have := HC1.out.size; omega) (by have := (wide_iff _).1 HW.out; omega) ((fit_iff _ _).1 HF.out).1 (by have := HLEN.out; omega)).mono ?_
          rintro e w' ⟨rfl, hwr, hkp2⟩
          obtain ⟨v2, ho2, hc2, hl2⟩ := hwr
          have hold := own_prefix2 (p := p) HKP.out HO1.out.own hc2 (own_ne HKP.out HO1.out.at_ (by decide)) hkp2
          have HKP2 := Lib.hid hold; clear hold hkp2
          have HO2 := Lib.hid ho2; have HC2 := Lib.hid hc2; have HL2 := Lib.hid hl2; clear ho2 hc2 hl2
          go_wp2_with fail
          go_roundg (ns.length - (i + 1))
          case measure => have := HG2.out; omega
          case rel => exact ⟨i + 1, by omega, rfl, by go_num, v2, by rw [HST.out, ← List.append_assoc]; exact HO2.out, HC1.out.trans HC2.out (fun _ hk hs => outSet_lies HL1.out hk hs), HL1.out.trans HL2.out HC1.out.size, HKP2.out⟩
        · go_wp2_with fail
          go_ret
          rw [HK.out, numd_yes _ HK.out]
          exact ⟨rfl, ⟨v1, by rw [List.take_of_length_le (by omega)] at ho1; exact ho1, hc1, hl1⟩, HKP.out⟩
theorem num_one_keep (B p b cap : Nat) (v : Value) (bs : List UInt8) (wd x : Int) (w : World) (ho : Out w B p v bs) (hB : B ≤ w.heap.size)
    (hc : w.cell? ⟨b, 0, none⟩ = some (.int .i64 x)) (hx : inI64 x) (hl : bs.length ≤ 1000000000) (hbs : ¬ outSet p v b) :
    Calls Try.prog 10 #[.pointer (some ⟨p, 0, none⟩), .int .i64 wd, .slice (some ⟨b, 0, none⟩) 1 cap] w fun e w' => e = .returned (.bool (okNums wd [x])) ∧ Wrote w B p v (numd wd [x] bs) w' ∧ Own w' B v bs := by
  by_cases hw : wide wd = true
  · exact num_some_keep B p b 0 cap v bs wd [x] w ho hB (by intro i hi; simp at hi; subst hi; simpa using hc) (by intro n hn; simp at hn; subst hn; exact hx) hl (by simp) hbs hw
  · have hw : wide wd = false := by simpa using hw
    have hk : okNums wd [x] = false := by unfold okNums; rw [hw]; rfl
    refine (num_width p wd _ w hw).mono ?_
    rintro e w' ⟨rfl, rfl⟩
    rw [hk, numd_no _ hk]; exact ⟨rfl, Wrote.refl ho, ho.own⟩
set_option maxHeartbeats 400000 in
theorem number25_keep (B p : Nat) (v : Value) (bs : List UInt8) (x : Int) (w : World) (ho : Out w B p v bs) (hB : B ≤ w.heap.size) (hx : inI64 x) (hl : bs.length ≤ 1000000000) :
    Calls Try.prog 25 #[.pointer (some ⟨p, 0, none⟩), .int .i64 x] w fun e w' => e = .returned (.bool (okNums 1 [x])) ∧ Wrote w B p v (numd 1 [x] bs) w' ∧ Own w' B v bs := by
  have HO := Lib.hid ho; clear ho
  go_enter Try.func25, Try.ntmps25
  go_wp2_with (go_at_call 10; refine (num_one_keep B p w.heap.size 1 v bs 1 x _ (HO.out.alloc _) (by simp; omega) (by simp [go_sem]) hx hl (HO.out.not_new (Nat.le_refl _))).mono ?_; rintro e w' ⟨rfl, hw, hk⟩; have HW := Lib.hid hw; have HK := Lib.hid hk; clear hw hk)
  go_ret
  exact ⟨rfl, Wrote.trans ((Chg.refl w (outSet p v)).alloc _) (Lies.refl _ _) HW.out, HK.out⟩
end Go.Proofs.Ytoijipahcpdhcaa
