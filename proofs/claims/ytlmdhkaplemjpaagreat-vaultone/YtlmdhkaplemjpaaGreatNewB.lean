/- What is checked of a call that is asked; a new one. -/
import Derived.Test.YtlmdhkaplemjpaaGreatAskB
namespace Go.Proofs.YtlmdhkaplemjpaaGreat
open Go.RowKit Go.Lib
set_option linter.unusedVariables false
set_option linter.unusedSimpArgs false

def chkK (c : Cfg) (x : K) : Int := if okc c = true then (if askK c x = true then 0 else 1) else 3
theorem chkK_no {c : Cfg} {x : K} (h : okc c = false) : chkK c x = 3 := if_neg (by rw [h]; decide)
theorem chkK_arg {c : Cfg} {x : K} (h : okc c = true) (h2 : askK c x = false) : chkK c x = 1 := by unfold chkK; rw [if_pos h, if_neg (by rw [h2]; decide)]
theorem chkK_ok {c : Cfg} {x : K} (h : okc c = true) (h2 : askK c x = true) : chkK c x = 0 := by unfold chkK; rw [if_pos h, if_pos h2]
def Num (w : World) (n : Int) (e : Ending) (w' : World) : Prop := e = .returned (.int .i64 n) ∧ Below w.heap.size w w'
set_option maxRecDepth 100000 in
set_option maxHeartbeats 2000000 in
theorem checkK_any (c : Cfg) (x : K) (w : World) : Calls Tryz.prog 58 #[c.V, x.V] w (Num w (chkK c x)) := by
  have HT := Lib.hid (Duo.new w c x)
  have CK := Lib.hid (fun W => check_any c W)
  have CA := Lib.hid (fun W => ask_any c x W)
  cases h : okc c
  · rw [chk_no h] at CK
    have HR := Lib.hid (chkK_no (x := x) h)
    go_enter Tryz.func58, Tryz.ntmps58
    go_upto_region 1 with fail
    obtain ⟨W, hW⟩ : ∃ W, (w.alloc (.cells c.cells 24)).alloc (.cells x.cells 46) = W := ⟨_, rfl⟩
    rw [hW] at HT ⊢; clear hW
    generalize w.heap.size + 1 = p at HT ⊢
    generalize w.heap.size = g at HT ⊢
    have HA := Lib.hid HT.out.at_; have HC := Lib.hid HT.out.cat
    go_wp2_with ((with_reducible apply wpList_load_cat (h := HC.out)); exact rfl; exact rfl; exact rfl)
    refine (CK.out _).mono ?_
    rintro e w1 ⟨rfl, hb⟩
    have HT := Lib.hid (HT.out.step hb)
    go_wp2_with fail
    go_ret
    exact ⟨ret_int HR.out.symm, HT.out.bel⟩
  · rw [chk_ok h] at CK
    have HE : Hid (askK c x = true ∧ chkK c x = 0 ∨ askK c x = false ∧ chkK c x = 1) := Lib.hid (by
      cases h2 : askK c x
      · exact .inr ⟨rfl, chkK_arg h h2⟩
      · exact .inl ⟨rfl, chkK_ok h h2⟩)
    rcases HE.out with ⟨e1, e2⟩ | ⟨e1, e2⟩
    all_goals
      rw [e1] at CA
      have HR := Lib.hid e2
      clear e1 e2 HE
      go_enter Tryz.func58, Tryz.ntmps58
      go_upto_region 1 with fail
      obtain ⟨W, hW⟩ : ∃ W, (w.alloc (.cells c.cells 24)).alloc (.cells x.cells 46) = W := ⟨_, rfl⟩
      rw [hW] at HT ⊢; clear hW
      generalize w.heap.size + 1 = p at HT ⊢
      generalize w.heap.size = g at HT ⊢
      have HA := Lib.hid HT.out.at_; have HC := Lib.hid HT.out.cat
      go_wp2_with ((with_reducible apply wpList_load_cat (h := HC.out)); exact rfl; exact rfl; exact rfl)
      refine (CK.out _).mono ?_
      rintro e w1 ⟨rfl, hb⟩
      have HT := Lib.hid (HT.out.step hb); clear hb HA HC
      have HA := Lib.hid HT.out.at_; have HC := Lib.hid HT.out.cat
      go_wp2_with (first | ((with_reducible apply wpList_load_cat (h := HC.out)); exact rfl; exact rfl; exact rfl) | ((with_reducible apply wpList_load_kat (h := HA.out)); exact rfl; exact rfl; exact rfl))
      refine (CA.out _).mono ?_
      rintro e w2 ⟨rfl, hb⟩
      have HT := Lib.hid (HT.out.step hb); clear hb HA HC
      go_wp2_with fail
      go_ret
      exact ⟨ret_int HR.out.symm, HT.out.bel⟩
def newK (c : Cfg) (x : K) (i o b : Int) : K × Int := if chkK c x = 0 then ({ x with id := i, own := o, born := b, st := 1 }, 0) else (zk, chkK c x)
theorem new_no {c : Cfg} {x : K} {i o b n : Int} (h : chkK c x = n) (hn : n ≠ 0) : newK c x i o b = (zk, n) := by subst h; exact if_neg hn
theorem new_ok {c : Cfg} {x : K} {i o b : Int} (h : chkK c x = 0) : newK c x i o b = ({ x with id := i, own := o, born := b, st := 1 }, 0) := if_pos h
theorem chkK_cases (c : Cfg) (x : K) : chkK c x = 0 ∨ chkK c x = 1 ∨ chkK c x = 3 := by
  unfold chkK; split
  · split
    · exact .inl rfl
    · exact .inr (.inl rfl)
  · exact .inr (.inr rfl)
theorem Two.set0 {w W : World} {p q : Nat} {x : K} (h : Two w W p q x) (n : Int) : Two w (W.setCell ⟨p, 0, none⟩ (.int .i64 n)) p q { x with id := n } := h.set 0 _ (KAt.set0 h.at_ n)
theorem Two.set6 {w W : World} {p q : Nat} {x : K} (h : Two w W p q x) (n : Int) : Two w (W.setCell ⟨p, 6, none⟩ (.int .i64 n)) p q { x with own := n } := h.set 6 _ (KAt.set6 h.at_ n)
theorem Two.set7 {w W : World} {p q : Nat} {x : K} (h : Two w W p q x) (n : Int) : Two w (W.setCell ⟨p, 7, none⟩ (.int .i64 n)) p q { x with born := n } := h.set 7 _ (KAt.set7 h.at_ n)
set_option maxRecDepth 100000 in
set_option maxHeartbeats 2000000 in
theorem new_1_2_3 (c : Cfg) (x : K) (w : World) : Calls Tryz.prog 36 #[c.V, x.V, .int .i64 1, .int .i64 2, .int .i64 3] w (Ans w (newK c x 1 2 3)) := by
  have HT := Lib.hid (Thr.new w c x)
  have CK := Lib.hid (fun W => checkK_any c x W)
  rcases chkK_cases c x with hc | hc | hc
  · have HR := Lib.hid (new_ok (i := 1) (o := 2) (b := 3) hc)
    rw [hc] at CK; clear hc
    go_enter Tryz.func36, Tryz.ntmps36
    go_upto_region 1 with fail
    obtain ⟨W, hW⟩ : ∃ W, ((w.alloc (.cells c.cells 24)).alloc (.cells x.cells 46)).alloc (.cells Z8 46) = W := ⟨_, rfl⟩
    rw [hW] at HT ⊢; clear hW
    generalize w.heap.size + 1 + 1 = q at HT ⊢
    generalize w.heap.size + 1 = p at HT ⊢
    generalize w.heap.size = g at HT ⊢
    have HA := Lib.hid HT.out.two.at_; have HC := Lib.hid HT.out.cat
    go_wp2_with (first | ((with_reducible apply wpList_load_cat (h := HC.out)); exact rfl; exact rfl; exact rfl) | ((with_reducible apply wpList_load_kat (h := HA.out)); exact rfl; exact rfl; exact rfl))
    refine (CK.out _).mono ?_
    rintro e w1 ⟨rfl, hb⟩
    have H1 := Lib.hid (HT.out.step hb).two; clear hb HA HC HT CK
    have k0 := H1.out.at_.get0; have f0 := At.frozen H1.out.at_ 0
    have H2 := Lib.hid (H1.out.set0 1); have k6 := H2.out.at_.get6; have f6 := At.frozen H2.out.at_ 6
    have H3 := Lib.hid (H2.out.set6 2); have k7 := H3.out.at_.get7; have f7 := At.frozen H3.out.at_ 7
    have H4 := Lib.hid (H3.out.set7 3); have k5 := H4.out.at_.get5; have f5 := At.frozen H4.out.at_ 5
    have H5 := Lib.hid (H4.out.set5 1); clear H1 H2 H3 H4
    generalize hd : ({ x with id := 1, own := 2, born := 3, st := 1 } : K) = d at H5 HR
    have HA := Lib.hid H5.out.at_
    obtain ⟨z, hz⟩ := H5.out.ans
    have HZ := Lib.hid hz; clear hz hd
    go_wp2_with (first | ((with_reducible apply wpList_load_kat (h := HA.out)); exact rfl; exact rfl; exact rfl) | ((with_reducible apply wpList_store_kat (c := d) (hq := HZ.out)); exact rfl; exact rfl; exact rfl; exact rfl))
    exact bodyPost_ret (results_pair Tryz.results36 rfl rfl (H5.out.out d).1) rfl (H5.out.fin HR.out)
  · have HR : Hid (newK c x 1 2 3 = (zk, (1 : Int))) := Lib.hid (new_no hc (by decide))
    rw [hc] at CK; clear hc
    go_enter Tryz.func36, Tryz.ntmps36
    go_upto_region 1 with fail
    obtain ⟨W, hW⟩ : ∃ W, ((w.alloc (.cells c.cells 24)).alloc (.cells x.cells 46)).alloc (.cells Z8 46) = W := ⟨_, rfl⟩
    rw [hW] at HT ⊢; clear hW
    generalize w.heap.size + 1 + 1 = q at HT ⊢
    generalize w.heap.size + 1 = p at HT ⊢
    generalize w.heap.size = g at HT ⊢
    have HA := Lib.hid HT.out.two.at_; have HC := Lib.hid HT.out.cat
    go_wp2_with (first | ((with_reducible apply wpList_load_cat (h := HC.out)); exact rfl; exact rfl; exact rfl) | ((with_reducible apply wpList_load_kat (h := HA.out)); exact rfl; exact rfl; exact rfl))
    refine (CK.out _).mono ?_
    rintro e w1 ⟨rfl, hb⟩
    have H1 := Lib.hid (HT.out.step hb).two; clear hb HA HC HT CK
    obtain ⟨z, hz⟩ := H1.out.ans
    have HZ := Lib.hid hz; clear hz
    go_wp2_with ((with_reducible apply wpList_store_kat (c := zk) (hq := HZ.out)); exact rfl; exact rfl; exact rfl; exact rfl)
    exact bodyPost_ret (results_pair Tryz.results36 rfl rfl (H1.out.out zk).1) rfl (H1.out.fin HR.out)
  · have HR : Hid (newK c x 1 2 3 = (zk, (3 : Int))) := Lib.hid (new_no hc (by decide))
    rw [hc] at CK; clear hc
    go_enter Tryz.func36, Tryz.ntmps36
    go_upto_region 1 with fail
    obtain ⟨W, hW⟩ : ∃ W, ((w.alloc (.cells c.cells 24)).alloc (.cells x.cells 46)).alloc (.cells Z8 46) = W := ⟨_, rfl⟩
    rw [hW] at HT ⊢; clear hW
    generalize w.heap.size + 1 + 1 = q at HT ⊢
    generalize w.heap.size + 1 = p at HT ⊢
    generalize w.heap.size = g at HT ⊢
    have HA := Lib.hid HT.out.two.at_; have HC := Lib.hid HT.out.cat
    go_wp2_with (first | ((with_reducible apply wpList_load_cat (h := HC.out)); exact rfl; exact rfl; exact rfl) | ((with_reducible apply wpList_load_kat (h := HA.out)); exact rfl; exact rfl; exact rfl))
    refine (CK.out _).mono ?_
    rintro e w1 ⟨rfl, hb⟩
    have H1 := Lib.hid (HT.out.step hb).two; clear hb HA HC HT CK
    obtain ⟨z, hz⟩ := H1.out.ans
    have HZ := Lib.hid hz; clear hz
    go_wp2_with ((with_reducible apply wpList_store_kat (c := zk) (hq := HZ.out)); exact rfl; exact rfl; exact rfl; exact rfl)
    exact bodyPost_ret (results_pair Tryz.results36 rfl rfl (H1.out.out zk).1) rfl (H1.out.fin HR.out)
end Go.Proofs.YtlmdhkaplemjpaaGreat
/- New ones with other numbers. -/
namespace Go.Proofs.YtlmdhkaplemjpaaGreat
open Go.RowKit Go.Lib
set_option linter.unusedVariables false
set_option linter.unusedSimpArgs false

set_option maxRecDepth 100000 in
set_option maxHeartbeats 2000000 in
theorem new_7_8_9 (c : Cfg) (x : K) (w : World) : Calls Tryz.prog 36 #[c.V, x.V, .int .i64 7, .int .i64 8, .int .i64 9] w (Ans w (newK c x 7 8 9)) := by
  have HT := Lib.hid (Thr.new w c x)
  have CK := Lib.hid (fun W => checkK_any c x W)
  rcases chkK_cases c x with hc | hc | hc
  · have HR := Lib.hid (new_ok (i := 7) (o := 8) (b := 9) hc)
    rw [hc] at CK; clear hc
    go_enter Tryz.func36, Tryz.ntmps36
    go_upto_region 1 with fail
    obtain ⟨W, hW⟩ : ∃ W, ((w.alloc (.cells c.cells 24)).alloc (.cells x.cells 46)).alloc (.cells Z8 46) = W := ⟨_, rfl⟩
    rw [hW] at HT ⊢; clear hW
    generalize w.heap.size + 1 + 1 = q at HT ⊢
    generalize w.heap.size + 1 = p at HT ⊢
    generalize w.heap.size = g at HT ⊢
    have HA := Lib.hid HT.out.two.at_; have HC := Lib.hid HT.out.cat
    go_wp2_with (first | ((with_reducible apply wpList_load_cat (h := HC.out)); exact rfl; exact rfl; exact rfl) | ((with_reducible apply wpList_load_kat (h := HA.out)); exact rfl; exact rfl; exact rfl))
    refine (CK.out _).mono ?_
    rintro e w1 ⟨rfl, hb⟩
    have H1 := Lib.hid (HT.out.step hb).two; clear hb HA HC HT CK
    have k0 := H1.out.at_.get0; have f0 := At.frozen H1.out.at_ 0
    have H2 := Lib.hid (H1.out.set0 7); have k6 := H2.out.at_.get6; have f6 := At.frozen H2.out.at_ 6
    have H3 := Lib.hid (H2.out.set6 8); have k7 := H3.out.at_.get7; have f7 := At.frozen H3.out.at_ 7
    have H4 := Lib.hid (H3.out.set7 9); have k5 := H4.out.at_.get5; have f5 := At.frozen H4.out.at_ 5
    have H5 := Lib.hid (H4.out.set5 1); clear H1 H2 H3 H4
    generalize hd : ({ x with id := 7, own := 8, born := 9, st := 1 } : K) = d at H5 HR
    have HA := Lib.hid H5.out.at_
    obtain ⟨z, hz⟩ := H5.out.ans
    have HZ := Lib.hid hz; clear hz hd
    go_wp2_with (first | ((with_reducible apply wpList_load_kat (h := HA.out)); exact rfl; exact rfl; exact rfl) | ((with_reducible apply wpList_store_kat (c := d) (hq := HZ.out)); exact rfl; exact rfl; exact rfl; exact rfl))
    exact bodyPost_ret (results_pair Tryz.results36 rfl rfl (H5.out.out d).1) rfl (H5.out.fin HR.out)
  · have HR : Hid (newK c x 7 8 9 = (zk, (1 : Int))) := Lib.hid (new_no hc (by decide))
    rw [hc] at CK; clear hc
    go_enter Tryz.func36, Tryz.ntmps36
    go_upto_region 1 with fail
    obtain ⟨W, hW⟩ : ∃ W, ((w.alloc (.cells c.cells 24)).alloc (.cells x.cells 46)).alloc (.cells Z8 46) = W := ⟨_, rfl⟩
    rw [hW] at HT ⊢; clear hW
    generalize w.heap.size + 1 + 1 = q at HT ⊢
    generalize w.heap.size + 1 = p at HT ⊢
    generalize w.heap.size = g at HT ⊢
    have HA := Lib.hid HT.out.two.at_; have HC := Lib.hid HT.out.cat
    go_wp2_with (first | ((with_reducible apply wpList_load_cat (h := HC.out)); exact rfl; exact rfl; exact rfl) | ((with_reducible apply wpList_load_kat (h := HA.out)); exact rfl; exact rfl; exact rfl))
    refine (CK.out _).mono ?_
    rintro e w1 ⟨rfl, hb⟩
    have H1 := Lib.hid (HT.out.step hb).two; clear hb HA HC HT CK
    obtain ⟨z, hz⟩ := H1.out.ans
    have HZ := Lib.hid hz; clear hz
    go_wp2_with ((with_reducible apply wpList_store_kat (c := zk) (hq := HZ.out)); exact rfl; exact rfl; exact rfl; exact rfl)
    exact bodyPost_ret (results_pair Tryz.results36 rfl rfl (H1.out.out zk).1) rfl (H1.out.fin HR.out)
  · have HR : Hid (newK c x 7 8 9 = (zk, (3 : Int))) := Lib.hid (new_no hc (by decide))
    rw [hc] at CK; clear hc
    go_enter Tryz.func36, Tryz.ntmps36
    go_upto_region 1 with fail
    obtain ⟨W, hW⟩ : ∃ W, ((w.alloc (.cells c.cells 24)).alloc (.cells x.cells 46)).alloc (.cells Z8 46) = W := ⟨_, rfl⟩
    rw [hW] at HT ⊢; clear hW
    generalize w.heap.size + 1 + 1 = q at HT ⊢
    generalize w.heap.size + 1 = p at HT ⊢
    generalize w.heap.size = g at HT ⊢
    have HA := Lib.hid HT.out.two.at_; have HC := Lib.hid HT.out.cat
    go_wp2_with (first | ((with_reducible apply wpList_load_cat (h := HC.out)); exact rfl; exact rfl; exact rfl) | ((with_reducible apply wpList_load_kat (h := HA.out)); exact rfl; exact rfl; exact rfl))
    refine (CK.out _).mono ?_
    rintro e w1 ⟨rfl, hb⟩
    have H1 := Lib.hid (HT.out.step hb).two; clear hb HA HC HT CK
    obtain ⟨z, hz⟩ := H1.out.ans
    have HZ := Lib.hid hz; clear hz
    go_wp2_with ((with_reducible apply wpList_store_kat (c := zk) (hq := HZ.out)); exact rfl; exact rfl; exact rfl; exact rfl)
    exact bodyPost_ret (results_pair Tryz.results36 rfl rfl (H1.out.out zk).1) rfl (H1.out.fin HR.out)
set_option maxRecDepth 100000 in
set_option maxHeartbeats 2000000 in
theorem new_1_9_0 (c : Cfg) (x : K) (w : World) : Calls Tryz.prog 36 #[c.V, x.V, .int .i64 1, .int .i64 9, .int .i64 0] w (Ans w (newK c x 1 9 0)) := by
  have HT := Lib.hid (Thr.new w c x)
  have CK := Lib.hid (fun W => checkK_any c x W)
  rcases chkK_cases c x with hc | hc | hc
  · have HR := Lib.hid (new_ok (i := 1) (o := 9) (b := 0) hc)
    rw [hc] at CK; clear hc
    go_enter Tryz.func36, Tryz.ntmps36
    go_upto_region 1 with fail
    obtain ⟨W, hW⟩ : ∃ W, ((w.alloc (.cells c.cells 24)).alloc (.cells x.cells 46)).alloc (.cells Z8 46) = W := ⟨_, rfl⟩
    rw [hW] at HT ⊢; clear hW
    generalize w.heap.size + 1 + 1 = q at HT ⊢
    generalize w.heap.size + 1 = p at HT ⊢
    generalize w.heap.size = g at HT ⊢
    have HA := Lib.hid HT.out.two.at_; have HC := Lib.hid HT.out.cat
    go_wp2_with (first | ((with_reducible apply wpList_load_cat (h := HC.out)); exact rfl; exact rfl; exact rfl) | ((with_reducible apply wpList_load_kat (h := HA.out)); exact rfl; exact rfl; exact rfl))
    refine (CK.out _).mono ?_
    rintro e w1 ⟨rfl, hb⟩
    have H1 := Lib.hid (HT.out.step hb).two; clear hb HA HC HT CK
    have k0 := H1.out.at_.get0; have f0 := At.frozen H1.out.at_ 0
    have H2 := Lib.hid (H1.out.set0 1); have k6 := H2.out.at_.get6; have f6 := At.frozen H2.out.at_ 6
    have H3 := Lib.hid (H2.out.set6 9); have k7 := H3.out.at_.get7; have f7 := At.frozen H3.out.at_ 7
    have H4 := Lib.hid (H3.out.set7 0); have k5 := H4.out.at_.get5; have f5 := At.frozen H4.out.at_ 5
    have H5 := Lib.hid (H4.out.set5 1); clear H1 H2 H3 H4
    generalize hd : ({ x with id := 1, own := 9, born := 0, st := 1 } : K) = d at H5 HR
    have HA := Lib.hid H5.out.at_
    obtain ⟨z, hz⟩ := H5.out.ans
    have HZ := Lib.hid hz; clear hz hd
    go_wp2_with (first | ((with_reducible apply wpList_load_kat (h := HA.out)); exact rfl; exact rfl; exact rfl) | ((with_reducible apply wpList_store_kat (c := d) (hq := HZ.out)); exact rfl; exact rfl; exact rfl; exact rfl))
    exact bodyPost_ret (results_pair Tryz.results36 rfl rfl (H5.out.out d).1) rfl (H5.out.fin HR.out)
  · have HR : Hid (newK c x 1 9 0 = (zk, (1 : Int))) := Lib.hid (new_no hc (by decide))
    rw [hc] at CK; clear hc
    go_enter Tryz.func36, Tryz.ntmps36
    go_upto_region 1 with fail
    obtain ⟨W, hW⟩ : ∃ W, ((w.alloc (.cells c.cells 24)).alloc (.cells x.cells 46)).alloc (.cells Z8 46) = W := ⟨_, rfl⟩
    rw [hW] at HT ⊢; clear hW
    generalize w.heap.size + 1 + 1 = q at HT ⊢
    generalize w.heap.size + 1 = p at HT ⊢
    generalize w.heap.size = g at HT ⊢
    have HA := Lib.hid HT.out.two.at_; have HC := Lib.hid HT.out.cat
    go_wp2_with (first | ((with_reducible apply wpList_load_cat (h := HC.out)); exact rfl; exact rfl; exact rfl) | ((with_reducible apply wpList_load_kat (h := HA.out)); exact rfl; exact rfl; exact rfl))
    refine (CK.out _).mono ?_
    rintro e w1 ⟨rfl, hb⟩
    have H1 := Lib.hid (HT.out.step hb).two; clear hb HA HC HT CK
    obtain ⟨z, hz⟩ := H1.out.ans
    have HZ := Lib.hid hz; clear hz
    go_wp2_with ((with_reducible apply wpList_store_kat (c := zk) (hq := HZ.out)); exact rfl; exact rfl; exact rfl; exact rfl)
    exact bodyPost_ret (results_pair Tryz.results36 rfl rfl (H1.out.out zk).1) rfl (H1.out.fin HR.out)
  · have HR : Hid (newK c x 1 9 0 = (zk, (3 : Int))) := Lib.hid (new_no hc (by decide))
    rw [hc] at CK; clear hc
    go_enter Tryz.func36, Tryz.ntmps36
    go_upto_region 1 with fail
    obtain ⟨W, hW⟩ : ∃ W, ((w.alloc (.cells c.cells 24)).alloc (.cells x.cells 46)).alloc (.cells Z8 46) = W := ⟨_, rfl⟩
    rw [hW] at HT ⊢; clear hW
    generalize w.heap.size + 1 + 1 = q at HT ⊢
    generalize w.heap.size + 1 = p at HT ⊢
    generalize w.heap.size = g at HT ⊢
    have HA := Lib.hid HT.out.two.at_; have HC := Lib.hid HT.out.cat
    go_wp2_with (first | ((with_reducible apply wpList_load_cat (h := HC.out)); exact rfl; exact rfl; exact rfl) | ((with_reducible apply wpList_load_kat (h := HA.out)); exact rfl; exact rfl; exact rfl))
    refine (CK.out _).mono ?_
    rintro e w1 ⟨rfl, hb⟩
    have H1 := Lib.hid (HT.out.step hb).two; clear hb HA HC HT CK
    obtain ⟨z, hz⟩ := H1.out.ans
    have HZ := Lib.hid hz; clear hz
    go_wp2_with ((with_reducible apply wpList_store_kat (c := zk) (hq := HZ.out)); exact rfl; exact rfl; exact rfl; exact rfl)
    exact bodyPost_ret (results_pair Tryz.results36 rfl rfl (H1.out.out zk).1) rfl (H1.out.fin HR.out)
set_option maxRecDepth 100000 in
set_option maxHeartbeats 2000000 in
theorem new_1_1_1 (c : Cfg) (x : K) (w : World) : Calls Tryz.prog 36 #[c.V, x.V, .int .i64 1, .int .i64 1, .int .i64 1] w (Ans w (newK c x 1 1 1)) := by
  have HT := Lib.hid (Thr.new w c x)
  have CK := Lib.hid (fun W => checkK_any c x W)
  rcases chkK_cases c x with hc | hc | hc
  · have HR := Lib.hid (new_ok (i := 1) (o := 1) (b := 1) hc)
    rw [hc] at CK; clear hc
    go_enter Tryz.func36, Tryz.ntmps36
    go_upto_region 1 with fail
    obtain ⟨W, hW⟩ : ∃ W, ((w.alloc (.cells c.cells 24)).alloc (.cells x.cells 46)).alloc (.cells Z8 46) = W := ⟨_, rfl⟩
    rw [hW] at HT ⊢; clear hW
    generalize w.heap.size + 1 + 1 = q at HT ⊢
    generalize w.heap.size + 1 = p at HT ⊢
    generalize w.heap.size = g at HT ⊢
    have HA := Lib.hid HT.out.two.at_; have HC := Lib.hid HT.out.cat
    go_wp2_with (first | ((with_reducible apply wpList_load_cat (h := HC.out)); exact rfl; exact rfl; exact rfl) | ((with_reducible apply wpList_load_kat (h := HA.out)); exact rfl; exact rfl; exact rfl))
    refine (CK.out _).mono ?_
    rintro e w1 ⟨rfl, hb⟩
    have H1 := Lib.hid (HT.out.step hb).two; clear hb HA HC HT CK
    have k0 := H1.out.at_.get0; have f0 := At.frozen H1.out.at_ 0
    have H2 := Lib.hid (H1.out.set0 1); have k6 := H2.out.at_.get6; have f6 := At.frozen H2.out.at_ 6
    have H3 := Lib.hid (H2.out.set6 1); have k7 := H3.out.at_.get7; have f7 := At.frozen H3.out.at_ 7
    have H4 := Lib.hid (H3.out.set7 1); have k5 := H4.out.at_.get5; have f5 := At.frozen H4.out.at_ 5
    have H5 := Lib.hid (H4.out.set5 1); clear H1 H2 H3 H4
    generalize hd : ({ x with id := 1, own := 1, born := 1, st := 1 } : K) = d at H5 HR
    have HA := Lib.hid H5.out.at_
    obtain ⟨z, hz⟩ := H5.out.ans
    have HZ := Lib.hid hz; clear hz hd
    go_wp2_with (first | ((with_reducible apply wpList_load_kat (h := HA.out)); exact rfl; exact rfl; exact rfl) | ((with_reducible apply wpList_store_kat (c := d) (hq := HZ.out)); exact rfl; exact rfl; exact rfl; exact rfl))
    exact bodyPost_ret (results_pair Tryz.results36 rfl rfl (H5.out.out d).1) rfl (H5.out.fin HR.out)
  · have HR : Hid (newK c x 1 1 1 = (zk, (1 : Int))) := Lib.hid (new_no hc (by decide))
    rw [hc] at CK; clear hc
    go_enter Tryz.func36, Tryz.ntmps36
    go_upto_region 1 with fail
    obtain ⟨W, hW⟩ : ∃ W, ((w.alloc (.cells c.cells 24)).alloc (.cells x.cells 46)).alloc (.cells Z8 46) = W := ⟨_, rfl⟩
    rw [hW] at HT ⊢; clear hW
    generalize w.heap.size + 1 + 1 = q at HT ⊢
    generalize w.heap.size + 1 = p at HT ⊢
    generalize w.heap.size = g at HT ⊢
    have HA := Lib.hid HT.out.two.at_; have HC := Lib.hid HT.out.cat
    go_wp2_with (first | ((with_reducible apply wpList_load_cat (h := HC.out)); exact rfl; exact rfl; exact rfl) | ((with_reducible apply wpList_load_kat (h := HA.out)); exact rfl; exact rfl; exact rfl))
    refine (CK.out _).mono ?_
    rintro e w1 ⟨rfl, hb⟩
    have H1 := Lib.hid (HT.out.step hb).two; clear hb HA HC HT CK
    obtain ⟨z, hz⟩ := H1.out.ans
    have HZ := Lib.hid hz; clear hz
    go_wp2_with ((with_reducible apply wpList_store_kat (c := zk) (hq := HZ.out)); exact rfl; exact rfl; exact rfl; exact rfl)
    exact bodyPost_ret (results_pair Tryz.results36 rfl rfl (H1.out.out zk).1) rfl (H1.out.fin HR.out)
  · have HR : Hid (newK c x 1 1 1 = (zk, (3 : Int))) := Lib.hid (new_no hc (by decide))
    rw [hc] at CK; clear hc
    go_enter Tryz.func36, Tryz.ntmps36
    go_upto_region 1 with fail
    obtain ⟨W, hW⟩ : ∃ W, ((w.alloc (.cells c.cells 24)).alloc (.cells x.cells 46)).alloc (.cells Z8 46) = W := ⟨_, rfl⟩
    rw [hW] at HT ⊢; clear hW
    generalize w.heap.size + 1 + 1 = q at HT ⊢
    generalize w.heap.size + 1 = p at HT ⊢
    generalize w.heap.size = g at HT ⊢
    have HA := Lib.hid HT.out.two.at_; have HC := Lib.hid HT.out.cat
    go_wp2_with (first | ((with_reducible apply wpList_load_cat (h := HC.out)); exact rfl; exact rfl; exact rfl) | ((with_reducible apply wpList_load_kat (h := HA.out)); exact rfl; exact rfl; exact rfl))
    refine (CK.out _).mono ?_
    rintro e w1 ⟨rfl, hb⟩
    have H1 := Lib.hid (HT.out.step hb).two; clear hb HA HC HT CK
    obtain ⟨z, hz⟩ := H1.out.ans
    have HZ := Lib.hid hz; clear hz
    go_wp2_with ((with_reducible apply wpList_store_kat (c := zk) (hq := HZ.out)); exact rfl; exact rfl; exact rfl; exact rfl)
    exact bodyPost_ret (results_pair Tryz.results36 rfl rfl (H1.out.out zk).1) rfl (H1.out.fin HR.out)
end Go.Proofs.YtlmdhkaplemjpaaGreat
