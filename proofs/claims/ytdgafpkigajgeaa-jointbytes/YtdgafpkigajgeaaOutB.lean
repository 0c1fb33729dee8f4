/- The contract of (*pack.Out).Num. -/
import Derived.Test.YtdgafpkigajgeaaOutA
namespace Go.Proofs.Ytdgafpkigajgeaa
open Go.RowKit Go.Lib Plain

/-- whether all can be numbers of wd bytes -/
def okNums (wd : Int) (ns : List Int) : Bool := wide wd && ns.all (fit wd)
/-- their bytes -/
def nums (wd : Int) (ns : List Int) : List UInt8 := ns.flatMap (num wd)
theorem nums_length (wd : Int) (ns : List Int) : (nums wd ns).length = ns.length * wd.toNat := by
  induction ns with
  | nil => simp [nums]
  | cons n ns ih => simp only [nums, List.flatMap_cons, List.length_append, num_length, List.length_cons, Nat.add_mul] at *; omega
/-- the bytes behind Num -/
def numd (wd : Int) (ns : List Int) (bs : List UInt8) : List UInt8 := if okNums wd ns = true then bs ++ nums wd ns else bs
theorem numd_yes {wd : Int} {ns : List Int} (bs : List UInt8) (h : okNums wd ns = true) : numd wd ns bs = bs ++ nums wd ns := if_pos h
theorem numd_no {wd : Int} {ns : List Int} (bs : List UInt8) (h : okNums wd ns = false) : numd wd ns bs = bs := if_neg (by rw [h]; decide)
def inI64 (n : Int) : Prop := -9223372036854775808 ≤ n ∧ n ≤ 9223372036854775807
theorem nums_take (wd : Int) (ns : List Int) (j : Nat) (h : j < ns.length) : nums wd (ns.take (j + 1)) = nums wd (ns.take j) ++ num wd (ns.getD j 0) := by
  unfold nums
  rw [List.take_succ_eq_append_getElem h, List.flatMap_append]; simp [h]

set_option maxHeartbeats 400000 in
theorem num_nil (wd : Int) (A : Value) (w : World) : Calls Try.prog 27 #[.pointer none, .int .i64 wd, A] w fun e w' => e = .returned (.bool false) ∧ w = w' := by
  go_enter Try.func27, Try.ntmps27
  go_wp2
  go_ret
  exact ⟨rfl, rfl⟩

set_option maxHeartbeats 400000 in
theorem num_width (p : Nat) (wd : Int) (A : Value) (w : World) (h : wide wd = false) : Calls Try.prog 27 #[.pointer (some ⟨p, 0, none⟩), .int .i64 wd, A] w fun e w' => e = .returned (.bool false) ∧ w = w' := by
  have H := Lib.hid h; clear h
  go_enter Try.func27, Try.ntmps27
  go_wp2_with (go_at_call 36; refine (isWidth_no _ _ H.out).mono ?_; rintro e w' ⟨rfl, rfl⟩)
  go_ret
  exact ⟨rfl, rfl⟩

set_option maxRecDepth 100000 in
set_option maxHeartbeats 1600000 in
theorem num_some (B p b off cap : Nat) (v : Value) (bs : List UInt8) (wd : Int) (ns : List Int) (w : World) (ho : Out w B p v bs) (hB : B ≤ w.heap.size)
    (hc : ∀ i, i < ns.length → w.cell? ⟨b, off + i, none⟩ = some (.int .i64 (ns.getD i 0))) (hr : ∀ n ∈ ns, inI64 n) (hl : bs.length ≤ 1000000000) (hn : ns.length ≤ 1000) (hbs : ¬ outSet p v b) (hw : wide wd = true) :
    Calls Try.prog 27 #[.pointer (some ⟨p, 0, none⟩), .int .i64 wd, .slice (some ⟨b, off, none⟩) ns.length cap] w fun e w' => e = .returned (.bool (okNums wd ns)) ∧ Wrote w B p v (numd wd ns bs) w' := by
  have HC := Lib.hid hc; have HR := Lib.hid hr; have HW := Lib.hid hw; clear hc hr hw
  have HO := Lib.hid ho; clear ho
  go_enter Try.func27, Try.ntmps27
  go_wp2_with (go_at_call 36; refine (isWidth_yes _ _ HW.out).mono ?_; rintro e w' ⟨rfl, rfl⟩)
  go_loopg [20] ns.length (fun g si wx => w = wx ∧ ∃ j : Nat, j ≤ ns.length ∧ g = ns.length - j ∧ si = .int .i64 (j : Int) ∧ (ns.take j).all (fit wd) = true)
  case atStart => exact ⟨rfl, 0, Nat.zero_le _, rfl, rfl, by simp⟩
  case round =>
    obtain ⟨rfl, j, hj, hg, rfl, hall⟩ := hrel
    have HG := Lib.hid hg; have HA := Lib.hid hall; clear hg hall
    by_cases hlt : j < ns.length
    · have hcell := HC.out j hlt
      have hm : ns.getD j 0 ∈ ns := by simp [hlt]
      have hrj := HR.out _ hm
      have htk : (ns.take (j + 1)).all (fit wd) = fit wd (ns.getD j 0) := by
        rw [List.take_succ_eq_append_getElem hlt, List.all_append, HA.out]; simp [hlt]
      have HTK := Lib.hid htk; have HM := Lib.hid hm; have HRJ := Lib.hid hrj; clear htk hm hrj
      generalize ns.getD j 0 = x at hcell HTK HM HRJ
      by_cases hf : fit wd x = true
      · have HF := Lib.hid hf; clear hf
        go_wp2_with (go_at_call 37; refine (fits_any _ _ _ HW.out HRJ.out.2 HRJ.out.1).mono ?_; rintro e w' ⟨rfl, rfl⟩; rw [HF.out])
        go_roundg (ns.length - (j + 1))
        case measure => have := HG.out; omega
        case rel => exact ⟨rfl, j + 1, by omega, rfl, by go_num, by rw [HTK.out, HF.out]⟩
      · have hf' : fit wd x = false := by simpa using hf
        have HF := Lib.hid hf'; clear hf hf'
        go_wp2_with (go_at_call 37; refine (fits_any _ _ _ HW.out HRJ.out.2 HRJ.out.1).mono ?_; rintro e w' ⟨rfl, rfl⟩; rw [HF.out])
        go_ret
        have hk : okNums wd ns = false := by
          unfold okNums
          have : ns.all (fit wd) = false := by
            rw [List.all_eq_false]
            exact ⟨x, HM.out, by rw [HF.out]; decide⟩
          rw [this]; simp
        rw [hk, numd_no _ hk]
        exact ⟨rfl, Wrote.refl HO.out⟩
    · have hk : okNums wd ns = true := by
        unfold okNums
        have := HA.out
        rw [List.take_of_length_le (by omega)] at this
        rw [HW.out, this]; rfl
      have HK := Lib.hid hk; clear hk
      go_wp2_with fail
      go_loopg [31] ns.length (fun g si wx => ∃ j : Nat, j ≤ ns.length ∧ g = ns.length - j ∧ si = .int .i64 (j : Int) ∧ ∃ v1, Out wx B p v1 (bs ++ nums wd (ns.take j)) ∧ Chg w wx (outSet p v) ∧ Lies w v v1)
      case atStart => exact ⟨0, Nat.zero_le _, rfl, rfl, v, by simpa [nums] using HO.out, Chg.refl _ _, Lies.refl _ _⟩
      case round =>
        obtain ⟨i, hi, hg2, rfl, v1, ho1, hc1, hl1⟩ := hrel
        have HG2 := Lib.hid hg2; clear hg2
        by_cases hlt2 : i < ns.length
        · have hcell := HC.out i hlt2
          have hbl : b < w.heap.size := World.block_lt_of_cell? w _ hcell
          have hcell2 : wr.cell? ⟨b, off + i, none⟩ = some (.int .i64 (ns.getD i 0)) := (World.cell?_of_block (hc1.block b hbl hbs)).trans hcell
          clear hcell
          have hm : ns.getD i 0 ∈ ns := by simp [hlt2]
          have hrj := HR.out _ hm
          have hfi : fit wd (ns.getD i 0) = true := by
            have := HK.out
            unfold okNums at this
            simp only [Bool.and_eq_true, List.all_eq_true] at this
            exact this.2 _ hm
          have hst := nums_take wd ns i hlt2
          have hlen : (bs ++ nums wd (ns.take i)).length ≤ 1000100000 := by
            rw [List.length_append, nums_length, List.length_take]
            have h8 : wd.toNat ≤ 8 := by have := (wide_iff wd).1 HW.out; omega
            have : min i ns.length * wd.toNat ≤ 1000 * 8 := Nat.mul_le_mul (by omega) h8
            omega
          have HLEN := Lib.hid hlen; have HST := Lib.hid hst; have HF := Lib.hid hfi; have HRJ := Lib.hid hrj; clear hlen hst hfi hm hrj
          have HO1 := Lib.hid ho1; have HC1 := Lib.hid hc1; have HL1 := Lib.hid hl1; clear ho1 hc1 hl1
          generalize ns.getD i 0 = x at hcell2 HST HF HRJ
          obtain ⟨k, hk⟩ : ∃ k : Nat, wd = (k : Int) := ⟨wd.toNat, by have := (wide_iff wd).1 HW.out; omega⟩
          subst hk
          go_wp2_with fail
          refine (put_any B p k v1 _ x _ HO1.out (by have := HC1.out.size; omega) (by have := (wide_iff _).1 HW.out; omega) ((fit_iff _ _).1 HF.out).1 HRJ.out.2 (by have := HLEN.out; omega)).mono ?_
          rintro e w' ⟨rfl, hwr⟩
          obtain ⟨v2, ho2, hc2, hl2⟩ := hwr
          have HO2 := Lib.hid ho2; have HC2 := Lib.hid hc2; have HL2 := Lib.hid hl2; clear ho2 hc2 hl2
          go_wp2_with fail
          go_roundg (ns.length - (i + 1))
          case measure => have := HG2.out; omega
          case rel => exact ⟨i + 1, by omega, rfl, by go_num, v2, by rw [HST.out, ← List.append_assoc]; exact HO2.out, HC1.out.trans HC2.out (fun _ hk hs => outSet_lies HL1.out hk hs), HL1.out.trans HL2.out HC1.out.size⟩
        · go_wp2_with fail
          go_ret
          rw [HK.out, numd_yes _ HK.out]
          exact ⟨rfl, v1, by rw [List.take_of_length_le (by omega)] at ho1; exact ho1, hc1, hl1⟩
end Go.Proofs.Ytdgafpkigajgeaa
