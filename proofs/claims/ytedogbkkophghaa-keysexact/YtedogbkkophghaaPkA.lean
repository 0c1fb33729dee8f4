/- The contracts of (*pack.Out).Num and String. -/
import Derived.Test.YtedogbkkophghaaPkPlain
import Derived.Test.YtedogbkkophghaaMem
import Derived.Test.YtedogbkkophghaaIsb
import Derived.Deep.RegionLaw
import Derived.Laws.BytesString
namespace Go.Proofs.Ytedogbkkophghaa.Pk
open Go.RowKit Go.Lib Plain

/-- the bytes that a slice of the call's own holds -/
def Own (w : World) (B : Nat) (v : Value) (bs : List UInt8) : Prop := w.ownsRow B 5 1 v bs.length (byteCells bs)

theorem info5 : (Try.prog.info? 5).map (fun i => (i.zero, i.size, i.bytes)) = some (some (.int .u8 0), 1, 1) := by kernel_rfl

set_option maxHeartbeats 400000 in
theorem isWidth_any (n : Int) (w : World) : Calls Try.prog 64 #[.int .i64 n] w fun e w' => e = .returned (.bool (wide n)) ∧ w = w' := by
  go_enter Try.func64, Try.ntmps64
  go_wp2
  all_goals go_ret
  all_goals exact ⟨ret_bool (by unfold wide; simp [*]), rfl⟩
theorem isWidth_yes (n : Int) (w : World) (h : wide n = true) : Calls Try.prog 64 #[.int .i64 n] w fun e w' => e = .returned (.bool true) ∧ w = w' := by
  have := isWidth_any n w; rw [h] at this; exact this
theorem isWidth_no (n : Int) (w : World) (h : wide n = false) : Calls Try.prog 64 #[.int .i64 n] w fun e w' => e = .returned (.bool false) ∧ w = w' := by
  have := isWidth_any n w; rw [h] at this; exact this

theorem fits_eq (wd n : Int) (h : wide wd = true) (h0 : 0 ≤ n) (h1 : n ≤ 9223372036854775807) : (n / 2 ^ (8 * wd).toNat == 0) = fit wd n := by
  obtain ⟨m, rfl⟩ := Int.eq_ofNat_of_zero_le h0
  rw [wide_iff] at h
  unfold fit
  rcases h with rfl | rfl | rfl | rfl <;> simp <;> rw [Bool.eq_iff_iff] <;> simp <;> omega
set_option maxHeartbeats 400000 in
theorem fits_any (wd n : Int) (w : World) (h : wide wd = true) (h1 : n ≤ 9223372036854775807) (h2 : -9223372036854775808 ≤ n) : Calls Try.prog 65 #[.int .i64 wd, .int .i64 n] w fun e w' => e = .returned (.bool (fit wd n)) ∧ w = w' := by
  have hw := (wide_iff wd).1 h
  by_cases h0 : 0 ≤ n
  · have hf := fits_eq wd n h h0 h1
    have H := Lib.hid hf; have HW := Lib.hid h; clear hf h
    have b1 : 1 ≤ wd := by omega
    have b2 : wd ≤ 8 := by omega
    have HH := Lib.hid hw; clear hw
    go_enter Try.func65, Try.ntmps65
    go_wp2
    go_ret
    exact ⟨ret_bool (by rw [← H.out]), rfl⟩
  · have hf : fit wd n = false := by unfold fit; simp; omega
    have H := Lib.hid hf; clear hf
    clear hw h
    go_enter Try.func65, Try.ntmps65
    go_wp2
    go_ret
    exact ⟨ret_bool (by rw [H.out]), rfl⟩

/-- an Out at block p: its one field holds v, which owns the bytes bs -/
structure Out (w : World) (B p : Nat) (v : Value) (bs : List UInt8) : Prop where
  at_ : At w p 97 #[v]
  own : Own w B v bs
  le : B ≤ p
theorem Out.ne {w : World} {B p : Nat} {v : Value} {bs : List UInt8} (h : Out w B p v bs) : v.ownBlock ≠ some p := own_ne h.own h.at_ (by decide)
/-- what a call may have turned that writes on an Out -/
def outSet (p : Nat) (v : Value) (k : Nat) : Prop := k = p ∨ v.ownBlock = some k
/-- behind a call that wrote: the Out holds bs -/
def Wrote (w : World) (B p : Nat) (v : Value) (bs : List UInt8) (w' : World) : Prop := ∃ v', Out w' B p v' bs ∧ Chg w w' (outSet p v) ∧ Lies w v v'
theorem Wrote.refl {w : World} {B p : Nat} {v : Value} {bs : List UInt8} (h : Out w B p v bs) : Wrote w B p v bs w := ⟨v, h, Chg.refl _ _, Lies.refl _ _⟩
theorem outSet_lies {w : World} {p : Nat} {v v' : Value} (h : Lies w v v') {k : Nat} (hk : k < w.heap.size) (hs : outSet p v' k) : outSet p v k := by
  rcases hs with hs | hs
  · exact .inl hs
  · exact .inr (h.old hs hk)
theorem Wrote.trans {w w1 w2 : World} {B p : Nat} {v v1 : Value} {bs : List UInt8} (hc : Chg w w1 (outSet p v)) (hl : Lies w v v1) (h2 : Wrote w1 B p v1 bs w2) : Wrote w B p v bs w2 := by
  obtain ⟨v2, ho, hc2, hl2⟩ := h2
  exact ⟨v2, ho, hc.trans hc2 (fun i hi hs => outSet_lies hl hi hs), hl.trans hl2 hc.size⟩

theorem out_stored {wr wa w1 : World} {B p : Nat} {v1 v' : Value} {bp bq : List UInt8} (ho : Out wr B p v1 bp) (ha : Chg wr wa (fun _ => False)) (hgrow : wa.grownBy w1 v1.ownBlock) (hown : Own w1 B v' bq)
    (hl : v'.ownBlock = v1.ownBlock ∨ ∃ g, v'.ownBlock = some g ∧ wr.heap.size ≤ g) :
    Out (w1.setCell ⟨p, 0, none⟩ v') B p v' bq ∧ Chg wr (w1.setCell ⟨p, 0, none⟩ v') (outSet p v1) ∧ Lies wr v1 v' := by
  have hc1 : Chg wr w1 (fun k => v1.ownBlock = some k) := (ha.mono (T := fun k => v1.ownBlock = some k) (fun _ _ h => h.elim)).trans (Chg.grown hgrow) (fun _ _ h => h)
  have hc : Chg wr w1 (outSet p v1) := hc1.mono (fun _ _ hs => .inr hs)
  have ha1 : At w1 p 97 #[v1] := ho.at_.chg hc1 ho.ne
  have hne : v'.ownBlock ≠ some p := own_ne hown ha1 (by decide)
  refine ⟨⟨by simpa using ha1.set 0 v', ?_, ho.le⟩, hc.set (fun _ => .inl rfl) _, hl⟩
  exact ownsRow_setCell_other hown (a := ⟨p, 0, none⟩) hne _

theorem byte_shr (n : Int) (j : Nat) (h0 : 0 ≤ n) : IntKind.u8.wrap (n / 2 ^ (8 * (j : Int)).toNat) = ((UInt8.ofNat (n.toNat / 256 ^ j)).toNat : Int) := by
  obtain ⟨m, rfl⟩ := Int.eq_ofNat_of_zero_le h0
  have e : (8 * (j : Int)).toNat = 8 * j := by omega
  have e2 : (2 : Int) ^ (8 * j) = ((256 ^ j : Nat) : Int) := by rw [Int.pow_mul]; simp
  rw [e, e2, Int.toNat_natCast, ← Int.natCast_ediv, IntKind.wrap_u8', UInt8.toNat_ofNat']
  omega

set_option maxRecDepth 100000 in
set_option maxHeartbeats 1600000 in
theorem put_any (B p k : Nat) (v : Value) (bs : List UInt8) (n : Int) (w : World) (ho : Out w B p v bs) (hB : B ≤ w.heap.size) (hk : k ≤ 8) (h0 : 0 ≤ n) (h1 : n ≤ 9223372036854775807) (hl : bs.length ≤ 1099511627776) :
    Calls Try.prog 66 #[.pointer (some ⟨p, 0, none⟩), .int .i64 k, .int .i64 n] w fun e w' => e = .returned (.tuple #[]) ∧ Wrote w B p v (bs ++ enc k n.toNat) w' := by
  obtain ⟨i0, hi0, hz0, hz1, hz2⟩ := info_parts info5
  have HZ0 := Lib.hid hz0; have HZ1 := Lib.hid hz1; have HZ2 := Lib.hid hz2; have HI := Lib.hid hi0; clear hz0 hz1 hz2 hi0
  go_enter Try.func66, Try.ntmps66
  go_wp2_with fail
  go_loopg [1] k (fun g s wx => ∃ (j : Nat) (pre : List UInt8) (v1 : Value), j ≤ k ∧ g = j ∧ s = .int .i64 (j : Int) ∧ pre ++ enc j n.toNat = enc k n.toNat ∧ Out wx B p v1 (bs ++ pre) ∧ Chg w wx (outSet p v) ∧ Lies w v v1)
  case atStart => exact ⟨k, [], v, Nat.le_refl _, rfl, rfl, by simp, by simpa using ho, Chg.refl _ _, Lies.refl _ _⟩
  case round =>
    obtain ⟨j, pre, v1, hj, hg, rfl, hpre, ho1, hc, hls⟩ := hrel
    have HG := Lib.hid hg; have HP := Lib.hid hpre; clear hg hpre
    by_cases hlt : 0 < j
    · obtain ⟨i, rfl⟩ : ∃ i, j = i + 1 := ⟨j - 1, by omega⟩
      have hi8 : i ≤ 7 := by omega
      have lp := ho1.at_.lt
      have nv := ho1.ne
      have c1 : wr.cell? ⟨p, 0, none⟩ = some v1 := by rw [ho1.at_.cell]; rfl
      have f1 := ho1.at_.frozen 0
      have hs := hc.size
      have e1 : IntKind.i64.wrap (8 * (i : Int)) = 8 * (i : Int) := IntWalk.i64_in _ (by omega)
      have e2 : (0 : Int) ≤ 8 * (i : Int) := by omega
      have e3 : min (8 * (i : Int)).toNat 64 = (8 * (i : Int)).toNat := by omega
      have e4 := byte_shr n i h0
      obtain ⟨b, hb⟩ : ∃ b : UInt8, b = UInt8.ofNat (n.toNat / 256 ^ i) := ⟨_, rfl⟩
      rw [← hb] at e4
      have HB := Lib.hid hb; clear hb
      have hnew : ∀ o : Obj, (wr.alloc o).frozen? ⟨p, 0, none⟩ = false := fun o => by rw [World.frozen?_alloc_past _ _ _ lp]; exact f1
      have HL : (bs ++ pre).length + 1 ≤ 1099511627800 := by
        have := congrArg List.length HP.out
        rw [List.length_append, enc_length, enc_length] at this
        rw [List.length_append]; omega
      have H6 := Lib.hid HL; clear HL
      generalize hbp : bs ++ pre = bp at ho1 H6
      have HBP := Lib.hid hbp; clear hbp
      go_wp2_with fail
      go_region_law (refine step_append_lies _ (by rfl) _ _ _ (by rfl) B 5 i0 _ 1 1 Try.underlying95 HI.out HZ0.out HZ1.out HZ2.out rfl (by omega) v1 _ _ (by rfl) ((World.ownsRow.alloc ho1.own _).drew) ⟨wr.heap.size, 0, none⟩ 1 1 [.int .u8 (b.toNat : Int)] (by rfl) (by rfl) (World.news_of_block (cs := #[.int .u8 (b.toNat : Int)]) (t := 5) (fr := (0, 0)) (heap_alloc_new wr _)) (by simp [Value.oneCell']) (by omega) (by have := H6.out; unfold maxLen; omega) (by have := H6.out; omega) (by simp; omega) (wr.heap.size + 1) (by simp) ?_; intro gg cap w1 hown1 hgrow hat hlt1; have k1 : w1.cell? ⟨p, 0, none⟩ = some v1 := (by rw [hgrow.cell_far _ (by simp; omega) (Ne.symm nv)]; simp [World.cell?_alloc_past _ _ _ lp]; exact c1); have k2 : w1.frozen? ⟨p, 0, none⟩ = false := (by rw [hgrow.frozen_far _ (by simp; omega) (Ne.symm nv)]; simp [hnew]))
      all_goals
        go_wp2
        go_roundg i
        case measure => have := HG.out; omega
        case rel =>
          have R := out_stored (v' := .slice (some ⟨gg, 0, none⟩) (bp.length + 1) cap) (bq := bp ++ [b]) ho1 (((Chg.refl wr (fun _ => False)).alloc _).drew) hgrow (by unfold Own; rw [byteCells_append, List.length_append]; exact hown1) (hat.elim (fun h => .inl h.symm) (fun h => .inr ⟨gg, rfl, by omega⟩))
          exact ⟨i, pre ++ [b], _, by omega, rfl, rfl, by have := HP.out; rw [enc, ← HB.out] at this; simpa using this, by rw [← List.append_assoc, HBP.out]; exact R.1, hc.trans R.2.1 (fun k hk hs => outSet_lies hls hk hs), hls.trans R.2.2 hc.size⟩
    · obtain rfl : j = 0 := by omega
      go_wp2_with fail
      go_end0
      exact ⟨rfl, v1, by have := HP.out; simp only [enc, List.append_nil] at this; rw [← this]; exact ho1, hc, hls⟩

/-- whether all can be numbers of wd bytes -/
def okNums (wd : Int) (ns : List Int) : Bool := wide wd && ns.all (fit wd)
/-- their bytes -/
def nums (wd : Int) (ns : List Int) : List UInt8 := ns.flatMap (num wd)
theorem nums_length (wd : Int) (ns : List Int) : (nums wd ns).length = ns.length * wd.toNat := by
  induction ns with
  | nil => simp [nums]
  | cons n ns ih => simp only [nums, List.flatMap_cons, List.length_append, num_length, List.length_cons, Nat.add_mul] at *; omega
/-- the bytes behind Num -/
def numd (wd : Int) (ns : List Int) (bs : List UInt8) : List UInt8 := if okNums wd ns = true then bs ++ nums wd ns else bs
theorem numd_yes {wd : Int} {ns : List Int} (bs : List UInt8) (h : okNums wd ns = true) : numd wd ns bs = bs ++ nums wd ns := if_pos h
theorem numd_no {wd : Int} {ns : List Int} (bs : List UInt8) (h : okNums wd ns = false) : numd wd ns bs = bs := if_neg (by rw [h]; decide)
def inI64 (n : Int) : Prop := -9223372036854775808 ≤ n ∧ n ≤ 9223372036854775807
theorem nums_take (wd : Int) (ns : List Int) (j : Nat) (h : j < ns.length) : nums wd (ns.take (j + 1)) = nums wd (ns.take j) ++ num wd (ns.getD j 0) := by
  unfold nums
  rw [List.take_succ_eq_append_getElem h, List.flatMap_append]; simp [h]

set_option maxHeartbeats 400000 in
theorem num_nil (wd : Int) (A : Value) (w : World) : Calls Try.prog 37 #[.pointer none, .int .i64 wd, A] w fun e w' => e = .returned (.bool false) ∧ w = w' := by
  go_enter Try.func37, Try.ntmps37
  go_wp2
  go_ret
  exact ⟨rfl, rfl⟩

set_option maxHeartbeats 400000 in
theorem num_width (p : Nat) (wd : Int) (A : Value) (w : World) (h : wide wd = false) : Calls Try.prog 37 #[.pointer (some ⟨p, 0, none⟩), .int .i64 wd, A] w fun e w' => e = .returned (.bool false) ∧ w = w' := by
  have H := Lib.hid h; clear h
  go_enter Try.func37, Try.ntmps37
  go_wp2_with (go_at_call 64; refine (isWidth_no _ _ H.out).mono ?_; rintro e w' ⟨rfl, rfl⟩)
  go_ret
  exact ⟨rfl, rfl⟩

set_option maxRecDepth 100000 in
set_option maxHeartbeats 1600000 in
theorem num_some (B p b off cap : Nat) (v : Value) (bs : List UInt8) (wd : Int) (ns : List Int) (w : World) (ho : Out w B p v bs) (hB : B ≤ w.heap.size)
    (hc : ∀ i, i < ns.length → w.cell? ⟨b, off + i, none⟩ = some (.int .i64 (ns.getD i 0))) (hr : ∀ n ∈ ns, inI64 n) (hl : bs.length ≤ 1000000000) (hn : ns.length ≤ 1000) (hbs : ¬ outSet p v b) (hw : wide wd = true) :
    Calls Try.prog 37 #[.pointer (some ⟨p, 0, none⟩), .int .i64 wd, .slice (some ⟨b, off, none⟩) ns.length cap] w fun e w' => e = .returned (.bool (okNums wd ns)) ∧ Wrote w B p v (numd wd ns bs) w' := by
  have HC := Lib.hid hc; have HR := Lib.hid hr; have HW := Lib.hid hw; clear hc hr hw
  have HO := Lib.hid ho; clear ho
  go_enter Try.func37, Try.ntmps37
  go_wp2_with (go_at_call 64; refine (isWidth_yes _ _ HW.out).mono ?_; rintro e w' ⟨rfl, rfl⟩)
  go_loopg [20] ns.length (fun g si wx => w = wx ∧ ∃ j : Nat, j ≤ ns.length ∧ g = ns.length - j ∧ si = .int .i64 (j : Int) ∧ (ns.take j).all (fit wd) = true)
  case atStart => exact ⟨rfl, 0, Nat.zero_le _, rfl, rfl, by simp⟩
  case round =>
    obtain ⟨rfl, j, hj, hg, rfl, hall⟩ := hrel
    have HG := Lib.hid hg; have HA := Lib.hid hall; clear hg hall
    by_cases hlt : j < ns.length
    · have hcell := HC.out j hlt
      have hm : ns.getD j 0 ∈ ns := by simp [hlt]
      have hrj := HR.out _ hm
      have htk : (ns.take (j + 1)).all (fit wd) = fit wd (ns.getD j 0) := by
        rw [List.take_succ_eq_append_getElem hlt, List.all_append, HA.out]; simp [hlt]
      have HTK := Lib.hid htk; have HM := Lib.hid hm; have HRJ := Lib.hid hrj; clear htk hm hrj
      generalize ns.getD j 0 = x at hcell HTK HM HRJ
      by_cases hf : fit wd x = true
      · have HF := Lib.hid hf; clear hf
        go_wp2_with (go_at_call 65; refine (fits_any _ _ _ HW.out HRJ.out.2 HRJ.out.1).mono ?_; rintro e w' ⟨rfl, rfl⟩; rw [HF.out])
        go_roundg (ns.length - (j + 1))
        case measure => have := HG.out; omega
        case rel => exact ⟨rfl, j + 1, by omega, rfl, by go_num, by rw [HTK.out, HF.out]⟩
      · have hf' : fit wd x = false := by simpa using hf
        have HF := Lib.hid hf'; clear hf hf'
        go_wp2_with (go_at_call 65; refine (fits_any _ _ _ HW.out HRJ.out.2 HRJ.out.1).mono ?_; rintro e w' ⟨rfl, rfl⟩; rw [HF.out])
        go_ret
        have hk : okNums wd ns = false := by
          unfold okNums
          have : ns.all (fit wd) = false := by
            rw [List.all_eq_false]
            exact ⟨x, HM.out, by rw [HF.out]; decide⟩
          rw [this]; simp
        rw [hk, numd_no _ hk]
        exact ⟨rfl, Wrote.refl HO.out⟩
    · have hk : okNums wd ns = true := by
        unfold okNums
        have := HA.out
        rw [List.take_of_length_le (by omega)] at this
        rw [HW.out, this]; rfl
      have HK := Lib.hid hk; clear hk
      go_wp2_with fail
      go_loopg [31] ns.length (fun g si wx => ∃ j : Nat, j ≤ ns.length ∧ g = ns.length - j ∧ si = .int .i64 (j : Int) ∧ ∃ v1, Out wx B p v1 (bs ++ nums wd (ns.take j)) ∧ Chg w wx (outSet p v) ∧ Lies w v v1)
      case atStart => exact ⟨0, Nat.zero_le _, rfl, rfl, v, by simpa [nums] using HO.out, Chg.refl _ _, Lies.refl _ _⟩
      case round =>
        obtain ⟨i, hi, hg2, rfl, v1, ho1, hc1, hl1⟩ := hrel
        have HG2 := Lib.hid hg2; clear hg2
        by_cases hlt2 : i < ns.length
        · have hcell := HC.out i hlt2
          have hbl : b < w.heap.size := World.block_lt_of_cell? w _ hcell
          have hcell2 : wr.cell? ⟨b, off + i, none⟩ = some (.int .i64 (ns.getD i 0)) := (World.cell?_of_block (hc1.block b hbl hbs)).trans hcell
          clear hcell
          have hm : ns.getD i 0 ∈ ns := by simp [hlt2]
          have hrj := HR.out _ hm
          have hfi : fit wd (ns.getD i 0) = true := by
            have := HK.out
            unfold okNums at this
            simp only [Bool.and_eq_true, List.all_eq_true] at this
            exact this.2 _ hm
          have hst := nums_take wd ns i hlt2
          have hlen : (bs ++ nums wd (ns.take i)).length ≤ 1000100000 := by
            rw [List.length_append, nums_length, List.length_take]
            have h8 : wd.toNat ≤ 8 := by have := (wide_iff wd).1 HW.out; omega
            have : min i ns.length * wd.toNat ≤ 1000 * 8 := Nat.mul_le_mul (by omega) h8
            omega
          have HLEN := Lib.hid hlen; have HST := Lib.hid hst; have HF := Lib.hid hfi; have HRJ := Lib.hid hrj; clear hlen hst hfi hm hrj
          have HO1 := Lib.hid ho1; have HC1 := Lib.hid hc1; have HL1 := Lib.hid hl1; clear ho1 hc1 hl1
          generalize ns.getD i 0 = x at hcell2 HST HF HRJ
          obtain ⟨k, hk⟩ : ∃ k : Nat, wd = (k : Int) := ⟨wd.toNat, by have := (wide_iff wd).1 HW.out; omega⟩
          subst hk
          go_wp2_with fail
          refine (put_any B p k v1 _ x _ HO1.out (by have := HC1.out.size; omega) (by have := (wide_iff _).1 HW.out; omega) ((fit_iff _ _).1 HF.out).1 HRJ.out.2 (by have := HLEN.out; omega)).mono ?_
          rintro e w' ⟨rfl, hwr⟩
          obtain ⟨v2, ho2, hc2, hl2⟩ := hwr
          have HO2 := Lib.hid ho2; have HC2 := Lib.hid hc2; have HL2 := Lib.hid hl2; clear ho2 hc2 hl2
          go_wp2_with fail
          go_roundg (ns.length - (i + 1))
          case measure => have := HG2.out; omega
          case rel => exact ⟨i + 1, by omega, rfl, by go_num, v2, by rw [HST.out, ← List.append_assoc]; exact HO2.out, HC1.out.trans HC2.out (fun _ hk hs => outSet_lies HL1.out hk hs), HL1.out.trans HL2.out HC1.out.size⟩
        · go_wp2_with fail
          go_ret
          rw [HK.out, numd_yes _ HK.out]
          exact ⟨rfl, v1, by rw [List.take_of_length_le (by omega)] at ho1; exact ho1, hc1, hl1⟩

/-- bytes as a text -/
def textOf (l : List UInt8) : ByteArray := ⟨l.toArray⟩
theorem textOf_data (l : List UInt8) : (textOf l).data.toList = l := by simp [textOf]
theorem textOf_size (l : List UInt8) : (textOf l).size = l.length := by simp [textOf, ByteArray.size]
theorem textOf_of (s : ByteArray) : textOf s.data.toList = s := by simp [textOf]
theorem textOf_nil : textOf [] = ⟨#[]⟩ := rfl
theorem foldl_push (ns : List UInt8) (s : ByteArray) : (ns.map (fun x => (x.toNat : Int))).foldl (fun r n => r.push (UInt8.ofNat n.toNat)) s = ⟨s.data ++ ns.toArray⟩ := by
  induction ns generalizing s with
  | nil => simp
  | cons c ns ih => simp only [List.map_cons, List.foldl_cons, ih]; simp
theorem conv_own {w : World} {B : Nat} {v : Value} {bs : List UInt8} (h : Own w B v bs) : (convert 95 9 v).run Try.prog w = .ok (.string (textOf bs)) w := by
  rcases h.2 with ⟨rfl, h0⟩ | ⟨g, cap, cur, rfl, hb, hg, hnc, hcm, hcs, htake⟩
  · have : bs = [] := List.eq_nil_of_length_eq_zero h0
    subst this
    rw [run_convert_bytes_string w 95 9 5 _ _ _ Try.underlying95 Try.underlying5 Try.underlying9]
    rfl
  · rw [run_convert_bytes_string w 95 9 5 _ _ _ Try.underlying95 Try.underlying5 Try.underlying9]
    have e : byteCells bs = (bs.map (fun x => (x.toNat : Int))).map (Value.int .u8) := by simp [byteCells]
    have hc := h.cells (g := g) rfl
    have hr := run_loadCells_list (P := Try.prog) (w := w) ⟨g, 0, none⟩ (byteCells bs) hc
    rw [byteCells_length] at hr
    rw [run_bytesToString w ⟨g, 0, none⟩ _ cap (bs.map (fun x => (x.toNat : Int))) (by rw [hr, e]), foldl_push]
    simp [textOf]

set_option maxHeartbeats 400000 in
theorem string_some {w : World} {B p : Nat} {v : Value} {bs : List UInt8} (h : Out w B p v bs) : Calls Try.prog 38 #[.pointer (some ⟨p, 0, none⟩)] w fun e w' => e = .returned (.string (textOf bs)) ∧ w = w' := by
  have hcv := conv_own h.own
  have c1 : w.cell? ⟨p, 0, none⟩ = some v := by rw [h.at_.cell]; rfl
  have H := Lib.hid h; clear h
  go_enter Try.func38, Try.ntmps38
  go_wp2
  go_ret
  exact ⟨rfl, rfl⟩
set_option maxHeartbeats 400000 in
theorem string_nil (w : World) : Calls Try.prog 38 #[.pointer none] w fun e w' => e = .returned (.string ⟨#[]⟩) ∧ w = w' := by
  go_enter Try.func38, Try.ntmps38
  go_wp2
  go_ret
  exact ⟨rfl, rfl⟩
theorem Out.alloc {w : World} {B p : Nat} {v : Value} {bs : List UInt8} (h : Out w B p v bs) (o : Obj) : Out (w.alloc o) B p v bs :=
  ⟨h.at_.alloc o, World.ownsRow.alloc h.own o, h.le⟩
theorem Out.chg {w w' : World} {S : Nat → Prop} {B p : Nat} {v : Value} {bs : List UInt8} (h : Out w B p v bs) (hc : Chg w w' S) (hp : ¬ S p) (hv : ∀ k, v.ownBlock = some k → ¬ S k) : Out w' B p v bs :=
  ⟨h.at_.chg hc hp, own_chg h.own hc hv, h.le⟩
theorem Out.new (w : World) (B : Nat) (hB : B ≤ w.heap.size) : Out (w.alloc (.cells #[.slice none 0 0] 97)) B w.heap.size (.slice none 0 0) [] :=
  ⟨At.new w 97 _, World.ownsRow_nil _ _ _ _, hB⟩
theorem Out.not_new {w : World} {B p : Nat} {v : Value} {bs : List UInt8} (h : Out w B p v bs) {k : Nat} (hk : w.heap.size ≤ k) : ¬ outSet p v k := by
  rintro (rfl | e)
  · have := h.at_.lt; omega
  · have := (h.own.lt k e).2; omega

end Go.Proofs.Ytedogbkkophghaa.Pk
