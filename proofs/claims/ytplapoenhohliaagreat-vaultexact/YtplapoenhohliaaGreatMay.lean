import Derived.Test.YtplapoenhohliaaGreatAskB
namespace Go.Proofs.YtplapoenhohliaaGreat
open Go.RowKit Go.Lib
set_option linter.unusedVariables false
set_option linter.unusedSimpArgs false
def chkK (c : Cfg) (x : K) : Int := if okc c = true then (if askK c x = true then 0 else 1) else 3
theorem chkK_no {c : Cfg} {x : K} (h : okc c = false) : chkK c x = 3 := if_neg (by rw [h]; decide)
theorem chkK_arg {c : Cfg} {x : K} (h : okc c = true) (h2 : askK c x = false) : chkK c x = 1 := by unfold chkK; rw [if_pos h, if_neg (by rw [h2]; decide)]
theorem chkK_ok {c : Cfg} {x : K} (h : okc c = true) (h2 : askK c x = true) : chkK c x = 0 := by unfold chkK; rw [if_pos h, if_pos h2]
def Num (w : World) (n : Int) (e : Ending) (w' : World) : Prop := e = .returned (.int .i64 n) ∧ Below w.heap.size w w'
set_option maxRecDepth 100000 in
set_option maxHeartbeats 2000000 in
theorem checkK_any (c : Cfg) (x : K) (w : World) : Calls Tryz.prog 48 #[c.V, x.V] w (Num w (chkK c x)) := by
 have HT := Lib.hid (Duo.new w c x)
 have CK := Lib.hid (fun W => check_any c W)
 have CA := Lib.hid (fun W => ask_any c x W)
 cases h : okc c
 ·rw [chk_no h] at CK
  have HR := Lib.hid (chkK_no (x := x) h)
  go_enter Tryz.func48, Tryz.ntmps48
  go_upto_region 1 with fail
  obtain ⟨W, hW⟩ : ∃ W, (w.alloc (.cells c.cells 24)).alloc (.cells x.cells 46) = W := ⟨_, rfl⟩
  rw [hW] at HT ⊢; clear hW
  generalize w.heap.size + 1 = p at HT ⊢
  generalize w.heap.size = g at HT ⊢
  have HA := Lib.hid HT.out.at_; have HC := Lib.hid HT.out.cat
  go_wp2_with ((with_reducible apply wpList_load_cat (h := HC.out)); exact rfl; exact rfl; exact rfl)
  refine (CK.out _).mono ?_
  rintro e w1 ⟨rfl, hb⟩
  have HT := Lib.hid (HT.out.step hb)
  go_wp2_with fail
  go_ret
  exact ⟨ret_int HR.out.symm, HT.out.bel⟩
 ·rw [chk_ok h] at CK
  have HE : Hid (askK c x = true ∧ chkK c x = 0 ∨ askK c x = false ∧ chkK c x = 1) := Lib.hid (by
   cases h2 : askK c x
   ·exact .inr ⟨rfl, chkK_arg h h2⟩
   ·exact .inl ⟨rfl, chkK_ok h h2⟩)
  rcases HE.out with ⟨e1, e2⟩ | ⟨e1, e2⟩
  all_goals
   rw [e1] at CA
   have HR := Lib.hid e2
   clear e1 e2 HE
   go_enter Tryz.func48, Tryz.ntmps48
   go_upto_region 1 with fail
   obtain ⟨W, hW⟩ : ∃ W, (w.alloc (.cells c.cells 24)).alloc (.cells x.cells 46) = W := ⟨_, rfl⟩
   rw [hW] at HT ⊢; clear hW
   generalize w.heap.size + 1 = p at HT ⊢
   generalize w.heap.size = g at HT ⊢
   have HA := Lib.hid HT.out.at_; have HC := Lib.hid HT.out.cat
   go_wp2_with ((with_reducible apply wpList_load_cat (h := HC.out)); exact rfl; exact rfl; exact rfl)
   refine (CK.out _).mono ?_
   rintro e w1 ⟨rfl, hb⟩
   have HT := Lib.hid (HT.out.step hb); clear hb HA HC
   have HA := Lib.hid HT.out.at_; have HC := Lib.hid HT.out.cat
   go_wp2_with (first | ((with_reducible apply wpList_load_cat (h := HC.out)); exact rfl; exact rfl; exact rfl) | ((with_reducible apply wpList_load_kat (h := HA.out)); exact rfl; exact rfl; exact rfl))
   refine (CA.out _).mono ?_
   rintro e w2 ⟨rfl, hb⟩
   have HT := Lib.hid (HT.out.step hb); clear hb HA HC
   go_wp2_with fail
   go_ret
   exact ⟨ret_int HR.out.symm, HT.out.bel⟩
def newK (c : Cfg) (x : K) (i o b : Int) : K × Int := if chkK c x = 0 then ({ x with id := i, own := o, born := b, st := 1 }, 0) else (zk, chkK c x)
theorem Two.set0 {w W : World} {p q : Nat} {x : K} (h : Two w W p q x) (n : Int) : Two w (W.setCell ⟨p, 0, none⟩ (.int .i64 n)) p q { x with id := n } := h.set 0 _ (KAt.set0 h.at_ n)
theorem Two.set6 {w W : World} {p q : Nat} {x : K} (h : Two w W p q x) (n : Int) : Two w (W.setCell ⟨p, 6, none⟩ (.int .i64 n)) p q { x with own := n } := h.set 6 _ (KAt.set6 h.at_ n)
theorem Two.set7 {w W : World} {p q : Nat} {x : K} (h : Two w W p q x) (n : Int) : Two w (W.setCell ⟨p, 7, none⟩ (.int .i64 n)) p q { x with born := n } := h.set 7 _ (KAt.set7 h.at_ n)
end Go.Proofs.YtplapoenhohliaaGreat
namespace Go.Proofs.YtplapoenhohliaaGreat
open Go.RowKit Go.Lib
set_option linter.unusedVariables false
set_option linter.unusedSimpArgs false
end Go.Proofs.YtplapoenhohliaaGreat
namespace Go.Proofs.YtplapoenhohliaaGreat
open Go.RowKit Go.Lib
set_option linter.unusedVariables false
set_option linter.unusedSimpArgs false
def fnum (j : Nat) : Nat := [111, 113, 115, 116, 117, 37, 118].getD j 0
def caps (g p j : Nat) : Array Value := ([#[ptr g 0, ptr p 0], #[ptr g 0, ptr p 0], #[ptr g 0]] : List (Array Value)).getD j #[]
def stepV (g p j : Nat) : Value := .func (.func (fnum j)) #[] (caps g p j)
def STP (g p : Nat) : Array Value := ((List.range 7).map (stepV g p)).toArray
def stepK (c : Cfg) (a b : K) (j : Nat) : K × Int := [assignK c a b.car, leaveK c a b.frm, leaveK c a 1, boardK a, serveK a, cancelK a, expireK a].getD j (zk, 0)
theorem STP_at (g p : Nat) {j : Nat} (h : j < 7) : (STP g p)[j]? = some (.func (.func (fnum j)) #[] (caps g p j)) := by
 simp [STP, stepV, h]
set_option maxRecDepth 100000 in
set_option maxHeartbeats 2000000 in
theorem steps_any (c : Cfg) (b : K) (w : World) : Calls Tryz.prog 106 #[c.V, b.V] w fun e w' => e = .returned (.slice (some ⟨w.heap.size + 1 + 1, 0, none⟩) 7 7) ∧ w' = ((w.alloc (.cells c.cells 24)).alloc (.cells b.cells 46)).alloc (.cells (STP w.heap.size (w.heap.size + 1)) 154) := by
 go_enter Tryz.func106, Tryz.ntmps106
 go_wp2_with fail
 go_ret
 exact ⟨rfl, rfl⟩
set_option maxRecDepth 100000 in
set_option maxHeartbeats 2000000 in
theorem cap0_any (c : Cfg) (a b : K) (g p : Nat) (w : World) (hc : CAt w g c) (hp : KAt w p b) : Calls Tryz.prog 111 #[a.V, ptr g 0, ptr p 0] w (Ans w (assignK c a b.car)) := by
 have HT := Lib.hid (Two.new w a)
 have HC0 := Lib.hid ((hc.step (below_new w (.cells a.cells 46))).step (below_new _ (.cells Z8 46)))
 have HP0 := Lib.hid ((hp.step (below_new w (.cells a.cells 46))).step (below_new _ (.cells Z8 46)))
 clear hc hp
 have CC := Lib.hid (fun W => assign_any c a b.car W)
 generalize hr : assignK c a b.car = r at *
 have HR := Lib.hid hr; clear hr
 go_enter Tryz.func111, Tryz.ntmps111
 go_upto_region 1 with fail
 obtain ⟨W, hW⟩ : ∃ W, (w.alloc (.cells a.cells 46)).alloc (.cells Z8 46) = W := ⟨_, rfl⟩
 rw [hW] at HT HC0 HP0 ⊢; clear hW
 generalize w.heap.size + 1 = q at HT ⊢
 generalize w.heap.size = u at HT ⊢
 have HA := Lib.hid HT.out.at_; have HC := HC0
 have kx := HP0.out.get4
 go_wp2_with (first | ((with_reducible apply wpList_load_cat (h := HC.out)); exact rfl; exact rfl; exact rfl) | ((with_reducible apply wpList_load_kat (h := HA.out)); exact rfl; exact rfl; exact rfl))
 refine (CC.out _).mono ?_
 rintro e w1 ⟨rfl, hb⟩
 have H4 := Lib.hid (HT.out.step hb); clear hb HT HA HC HC0 HP0 kx
 obtain ⟨d, m⟩ := r
 obtain ⟨z, hz⟩ := H4.out.ans
 have HZ := Lib.hid hz; clear hz
 go_wp2_with ((with_reducible apply wpList_store_kat (c := d) (hq := HZ.out)); exact rfl; exact rfl; exact rfl; exact rfl)
 exact bodyPost_ret (results_pair Tryz.results111 rfl rfl (H4.out.out d).1) rfl (H4.out.fin rfl)
set_option maxRecDepth 100000 in
set_option maxHeartbeats 2000000 in
theorem cap1_any (c : Cfg) (a b : K) (g p : Nat) (w : World) (hc : CAt w g c) (hp : KAt w p b) : Calls Tryz.prog 113 #[a.V, ptr g 0, ptr p 0] w (Ans w (leaveK c a b.frm)) := by
 have HT := Lib.hid (Two.new w a)
 have HC0 := Lib.hid ((hc.step (below_new w (.cells a.cells 46))).step (below_new _ (.cells Z8 46)))
 have HP0 := Lib.hid ((hp.step (below_new w (.cells a.cells 46))).step (below_new _ (.cells Z8 46)))
 clear hc hp
 have CC := Lib.hid (fun W => leave_any c a b.frm W)
 generalize hr : leaveK c a b.frm = r at *
 have HR := Lib.hid hr; clear hr
 go_enter Tryz.func113, Tryz.ntmps113
 go_upto_region 1 with fail
 obtain ⟨W, hW⟩ : ∃ W, (w.alloc (.cells a.cells 46)).alloc (.cells Z8 46) = W := ⟨_, rfl⟩
 rw [hW] at HT HC0 HP0 ⊢; clear hW
 generalize w.heap.size + 1 = q at HT ⊢
 generalize w.heap.size = u at HT ⊢
 have HA := Lib.hid HT.out.at_; have HC := HC0
 have kx := HP0.out.get2
 go_wp2_with (first | ((with_reducible apply wpList_load_cat (h := HC.out)); exact rfl; exact rfl; exact rfl) | ((with_reducible apply wpList_load_kat (h := HA.out)); exact rfl; exact rfl; exact rfl))
 refine (CC.out _).mono ?_
 rintro e w1 ⟨rfl, hb⟩
 have H4 := Lib.hid (HT.out.step hb); clear hb HT HA HC HC0 HP0 kx
 obtain ⟨d, m⟩ := r
 obtain ⟨z, hz⟩ := H4.out.ans
 have HZ := Lib.hid hz; clear hz
 go_wp2_with ((with_reducible apply wpList_store_kat (c := d) (hq := HZ.out)); exact rfl; exact rfl; exact rfl; exact rfl)
 exact bodyPost_ret (results_pair Tryz.results113 rfl rfl (H4.out.out d).1) rfl (H4.out.fin rfl)
set_option maxRecDepth 100000 in
set_option maxHeartbeats 2000000 in
theorem cap2_any (c : Cfg) (a b : K) (g p : Nat) (w : World) (hc : CAt w g c) (hp : KAt w p b) : Calls Tryz.prog 115 #[a.V, ptr g 0] w (Ans w (leaveK c a 1)) := by
 have HT := Lib.hid (Two.new w a)
 have HC0 := Lib.hid ((hc.step (below_new w (.cells a.cells 46))).step (below_new _ (.cells Z8 46)))
 have HP0 := Lib.hid ((hp.step (below_new w (.cells a.cells 46))).step (below_new _ (.cells Z8 46)))
 clear hc hp
 have CC := Lib.hid (fun W => leave_any c a 1 W)
 generalize hr : leaveK c a 1 = r at *
 have HR := Lib.hid hr; clear hr
 go_enter Tryz.func115, Tryz.ntmps115
 go_upto_region 1 with fail
 obtain ⟨W, hW⟩ : ∃ W, (w.alloc (.cells a.cells 46)).alloc (.cells Z8 46) = W := ⟨_, rfl⟩
 rw [hW] at HT HC0 HP0 ⊢; clear hW
 generalize w.heap.size + 1 = q at HT ⊢
 generalize w.heap.size = u at HT ⊢
 have HA := Lib.hid HT.out.at_; have HC := HC0
 have kx := HP0.out.get2
 go_wp2_with (first | ((with_reducible apply wpList_load_cat (h := HC.out)); exact rfl; exact rfl; exact rfl) | ((with_reducible apply wpList_load_kat (h := HA.out)); exact rfl; exact rfl; exact rfl))
 refine (CC.out _).mono ?_
 rintro e w1 ⟨rfl, hb⟩
 have H4 := Lib.hid (HT.out.step hb); clear hb HT HA HC HC0 HP0 kx
 obtain ⟨d, m⟩ := r
 obtain ⟨z, hz⟩ := H4.out.ans
 have HZ := Lib.hid hz; clear hz
 go_wp2_with ((with_reducible apply wpList_store_kat (c := d) (hq := HZ.out)); exact rfl; exact rfl; exact rfl; exact rfl)
 exact bodyPost_ret (results_pair Tryz.results115 rfl rfl (H4.out.out d).1) rfl (H4.out.fin rfl)
theorem step_any (c : Cfg) (a b : K) (g p : Nat) (w : World) (hc : CAt w g c) (hp : KAt w p b) (j : Nat) (hj : j < 7) : Calls Tryz.prog (fnum j) (#[a.V] ++ caps g p j) w (Ans w (stepK c a b j)) := by
 match j, hj with
 | 0, _ => exact cap0_any c a b g p w hc hp
 | 1, _ => exact cap1_any c a b g p w hc hp
 | 2, _ => exact cap2_any c a b g p w hc hp
 | 3, _ => exact board_any a w
 | 4, _ => exact serve_any a w
 | 5, _ => exact cancel_any a w
 | 6, _ => exact expire_any a w
 | n + 7, h => exact absurd h (by omega)
set_option maxRecDepth 100000 in
theorem call_step (j : Nat) (hj : j < 7) (args : Array Value) (W : World) : (callFunc (fnum j) args).run Tryz.prog W = .ok (.enter (fnum j) args) W := by
 match j, hj with
 | 0, _ => rfl
 | 1, _ => rfl
 | 2, _ => rfl
 | 3, _ => rfl
 | 4, _ => rfl
 | 5, _ => rfl
 | 6, _ => rfl
 | n + 7, h => exact absurd h (by omega)
end Go.Proofs.YtplapoenhohliaaGreat
namespace Go.Proofs.YtplapoenhohliaaGreat
open Go.RowKit Go.Lib
set_option linter.unusedVariables false
set_option linter.unusedSimpArgs false
def hit (c : Cfg) (a b : K) (j : Nat) : Bool := decide ((stepK c a b j).2 = 0) && (stepK c a b j).1.beq b
def mayK (c : Cfg) (a b : K) : Bool := okc c && (List.range 7).any (hit c a b)
theorem may_no {c : Cfg} {a b : K} (h : okc c = false) : mayK c a b = false := by simp [mayK, h]
theorem may_hit {c : Cfg} {a b : K} (h : okc c = true) {j : Nat} (hj : j < 7) (h2 : hit c a b j = true) : mayK c a b = true := by
 simp only [mayK, h, Bool.true_and, List.any_eq_true]
 exact ⟨j, by simpa using hj, h2⟩
theorem may_none {c : Cfg} {a b : K} (h2 : ∀ j, j < 7 → hit c a b j = false) : mayK c a b = false := by
 have : (List.range 7).any (hit c a b) = false := by
  rw [List.any_eq_false]
  intro j hj
  rw [h2 j (by simpa using hj)]; decide
 simp [mayK, this]
theorem wpList_store_knew {ops : Array Oper} {rest : List Oper} {o : Oper} {a : Act} {w : World} {Q : Exit → Act → World → Prop} (x y : Tmp) (ho : o.op = .store 46 (.tmp x) (.tmp y)) (hgd : o.guard = none) {c : K} (e1 : a.eval (.tmp x) = ptr w.heap.size 0) (e2 : a.eval (.tmp y) = c.V)
  (k : wpList Tryz.prog ops Q rest (a.put o.dst undef) (w.alloc (.cells c.cells 46))) : wpList Tryz.prog ops Q (o :: rest) a (w.alloc (.cells Z8 46)) := by
 refine wpList_store_kat x y ho hgd e1 e2 (z := zk) (KAt.new w zk) ?_
 rw [World.setRow_alloc_new]
 exact k
structure MSt (w wx : World) (pa pb g p u : Nat) (c : Cfg) (a b : K) : Prop where
 bel : Below w.heap.size w wx
 a_ : KAt wx pa a
 b_ : KAt wx pb b
 cat : CAt wx g c
 bb : KAt wx p b
 tab : At wx u 154 (STP g p)
theorem MSt.step {w wx wy : World} {pa pb g p u : Nat} {c : Cfg} {a b : K} (h : MSt w wx pa pb g p u c a b) (hb : Below wx.heap.size wx wy) : MSt w wy pa pb g p u c a b :=
 ⟨h.bel.trans (hb.mono h.bel.size), h.a_.step hb, h.b_.step hb, h.cat.step hb, h.bb.step hb, At.below h.tab hb (At.lt h.tab)⟩
structure Tri (w W : World) (g pa pb : Nat) (c : Cfg) (a b : K) : Prop where
 bel : Below w.heap.size w W
 cat : CAt W g c
 a_ : KAt W pa a
 b_ : KAt W pb b
theorem Tri.new (w : World) (c : Cfg) (a b : K) : Tri w (((w.alloc (.cells c.cells 24)).alloc (.cells a.cells 46)).alloc (.cells b.cells 46)) w.heap.size (w.heap.size + 1) (w.heap.size + 1 + 1) c a b := by
 have h := Duo.new w c a
 have hs : ((w.alloc (.cells c.cells 24)).alloc (.cells a.cells 46)).heap.size = w.heap.size + 1 + 1 := by simp
 have hb := KAt.new ((w.alloc (.cells c.cells 24)).alloc (.cells a.cells 46)) b
 rw [hs] at hb
 exact ⟨(h.step (below_new _ _)).bel, (h.step (below_new _ _)).cat, (h.step (below_new _ _)).at_, hb⟩
theorem Tri.step {w W W' : World} {g pa pb : Nat} {c : Cfg} {a b : K} (h : Tri w W g pa pb c a b) (hb : Below W.heap.size W W') : Tri w W' g pa pb c a b := ⟨h.bel.trans (hb.mono h.bel.size), h.cat.step hb, h.a_.step hb, h.b_.step hb⟩
theorem Tri.steps {w W : World} {g0 pa pb : Nat} {c : Cfg} {a b : K} (h : Tri w W g0 pa pb c a b) : MSt w (((W.alloc (.cells c.cells 24)).alloc (.cells b.cells 46)).alloc (.cells (STP W.heap.size (W.heap.size + 1)) 154)) pa pb W.heap.size (W.heap.size + 1) (W.heap.size + 1 + 1) c a b := by
 have d := Duo.new W c b
 have hs : ((W.alloc (.cells c.cells 24)).alloc (.cells b.cells 46)).heap.size = W.heap.size + 1 + 1 := by simp
 have ht := At.new ((W.alloc (.cells c.cells 24)).alloc (.cells b.cells 46)) 154 (STP W.heap.size (W.heap.size + 1))
 rw [hs] at ht
 have d2 := d.step (below_new _ (.cells (STP W.heap.size (W.heap.size + 1)) 154))
 have h2 := h.step d2.bel
 exact ⟨h2.bel, h2.a_, h2.b_, d2.cat, d2.at_, ht⟩
set_option maxRecDepth 100000 in
set_option maxHeartbeats 2000000 in
theorem may_any (c : Cfg) (a b : K) (w : World) : Calls Tryz.prog 94 #[c.V, a.V, b.V] w (Yes w (mayK c a b)) := by
 have HT := Lib.hid (Tri.new w c a b)
 have CK := Lib.hid (fun W => check_any c W)
 have CS := Lib.hid (fun W => steps_any c b W)
 have hsf := store_fn
 cases hok : okc c
 ·rw [chk_no hok] at CK
  have HR := Lib.hid (may_no (a := a) (b := b) hok); clear hok
  go_enter Tryz.func94, Tryz.ntmps94
  go_upto_region 1 with fail
  obtain ⟨W, hW⟩ : ∃ W, ((w.alloc (.cells c.cells 24)).alloc (.cells a.cells 46)).alloc (.cells b.cells 46) = W := ⟨_, rfl⟩
  rw [hW] at HT ⊢; clear hW
  generalize w.heap.size + 1 + 1 = pb at HT ⊢
  generalize w.heap.size + 1 = pa at HT ⊢
  generalize w.heap.size = g0 at HT ⊢
  have HC := Lib.hid HT.out.cat
  go_wp2_with ((with_reducible apply wpList_load_cat (h := HC.out)); exact rfl; exact rfl; exact rfl)
  refine (CK.out _).mono ?_
  rintro e w1 ⟨rfl, hb⟩
  have HT := Lib.hid (HT.out.step hb); clear hb HC
  go_wp2_with fail
  go_ret
  exact ⟨ret_bool HR.out.symm, HT.out.bel⟩
 ·rw [chk_ok hok] at CK
  have HOK := Lib.hid hok; clear hok
  go_enter Tryz.func94, Tryz.ntmps94
  go_upto_region 1 with fail
  obtain ⟨W, hW⟩ : ∃ W, ((w.alloc (.cells c.cells 24)).alloc (.cells a.cells 46)).alloc (.cells b.cells 46) = W := ⟨_, rfl⟩
  rw [hW] at HT ⊢; clear hW
  generalize w.heap.size + 1 + 1 = pb at HT ⊢
  generalize w.heap.size + 1 = pa at HT ⊢
  generalize w.heap.size = g0 at HT ⊢
  have HC := Lib.hid HT.out.cat
  go_wp2_with ((with_reducible apply wpList_load_cat (h := HC.out)); exact rfl; exact rfl; exact rfl)
  refine (CK.out _).mono ?_
  rintro e w1 ⟨rfl, hb⟩
  have HT := Lib.hid (HT.out.step hb); clear hb HC
  have HC := Lib.hid HT.out.cat; have HB := Lib.hid HT.out.b_
  go_wp2_with (first | ((with_reducible apply wpList_load_cat (h := HC.out)); exact rfl; exact rfl; exact rfl) | ((with_reducible apply wpList_load_kat (h := HB.out)); exact rfl; exact rfl; exact rfl))
  refine (CS.out _).mono ?_
  rintro e w2 ⟨rfl, rfl⟩
  have HS := Lib.hid HT.out.steps
  obtain ⟨W2, hW⟩ : ∃ W, ((w1.alloc (.cells c.cells 24)).alloc (.cells b.cells 46)).alloc (.cells (STP w1.heap.size (w1.heap.size + 1)) 154) = W := ⟨_, rfl⟩
  rw [hW] at HS ⊢; clear hW HT HC HB
  generalize w1.heap.size + 1 + 1 = u at HS ⊢
  generalize w1.heap.size + 1 = p at HS ⊢
  generalize w1.heap.size = g at HS ⊢
  go_wp2_with fail
  go_loopg [18] 7 (fun gh s18 wx => ∃ j : Nat, j ≤ 7 ∧ gh = 7 - j ∧ s18 = .int .i64 (j : Int) ∧ MSt w wx pa pb g p u c a b ∧ ∀ i, i < j → hit c a b i = false)
  case atStart => exact ⟨0, Nat.zero_le _, rfl, rfl, HS.out, fun i h => absurd h (by omega)⟩
  case round =>
   obtain ⟨j, hj, hg, rfl, hst, hno⟩ := hrel
   have HG := Lib.hid hg; have HS := Lib.hid hst; have HNO := Lib.hid hno; clear hg hno
   by_cases hlt : j < 7
   ·have kf := (At.cell hst.tab j).trans (STP_at g p hlt)
    have CP := Lib.hid (step_any c a b g p _ hst.cat hst.bb j hlt)
    have hcf := call_step j hlt
    have HA := Lib.hid hst.a_
    clear hst
    generalize caps g p j = C at *
    generalize fnum j = f at *
    have HH : Hid (hit c a b j = (decide ((stepK c a b j).2 = 0) && (stepK c a b j).1.beq b)) := Lib.hid rfl
    generalize stepK c a b j = r at *
    obtain ⟨d, m⟩ := r
    by_cases hm : m = 0
    ·subst hm
     cases hq : d.beq b
     ·have HN : Hid (∀ i, i < j + 1 → hit c a b i = false) := Lib.hid (fun i hi => by
       by_cases e : i = j
       ·subst e; rw [HH.out, hq]; simp
       ·exact HNO.out i (by omega))
      have HQ := Lib.hid hq; clear hq HH HNO
      go_wp2_with ((with_reducible apply wpList_load_kat (h := HA.out)); exact rfl; exact rfl; exact rfl)
      refine CP.out.mono ?_
      rintro e w3 ⟨rfl, hb⟩
      have HS := Lib.hid (HS.out.step hb); clear hb CP HA
      have HD := Lib.hid (KAt.new w3 d); have HS2 := Lib.hid (HS.out.step (below_new w3 (.cells d.cells 46)))
      go_upto_region 7 with ((with_reducible apply wpList_store_knew (c := d)); exact rfl; exact rfl; exact rfl; exact rfl)
      obtain ⟨w4, hW⟩ : ∃ W, w3.alloc (.cells d.cells 46) = W := ⟨_, rfl⟩
      rw [hW] at HD HS2 ⊢; clear hW HS
      generalize w3.heap.size = pd at HD ⊢
      have HB := Lib.hid HS2.out.b_
      go_wp2_with (first | ((with_reducible apply wpList_load_kat (h := HD.out)); exact rfl; exact rfl; exact rfl) | ((with_reducible apply wpList_load_kat (h := HB.out)); exact rfl; exact rfl; exact rfl) | ((with_reducible apply wpList_eql_kat (c := d) (d := b) (hb := HQ.out)); exact rfl; exact rfl; exact rfl; exact rfl))
      go_roundg (7 - (j + 1))
      case measure => have := HG.out; omega
      case rel => exact ⟨j + 1, by omega, rfl, by go_num, HS2.out, HN.out⟩
     ·have HR := Lib.hid (may_hit HOK.out hlt (by rw [HH.out, hq]; simp))
      have HQ := Lib.hid hq; clear hq HH HNO
      go_wp2_with ((with_reducible apply wpList_load_kat (h := HA.out)); exact rfl; exact rfl; exact rfl)
      refine CP.out.mono ?_
      rintro e w3 ⟨rfl, hb⟩
      have HS := Lib.hid (HS.out.step hb); clear hb CP HA
      have HD := Lib.hid (KAt.new w3 d); have HS2 := Lib.hid (HS.out.step (below_new w3 (.cells d.cells 46)))
      go_upto_region 7 with ((with_reducible apply wpList_store_knew (c := d)); exact rfl; exact rfl; exact rfl; exact rfl)
      obtain ⟨w4, hW⟩ : ∃ W, w3.alloc (.cells d.cells 46) = W := ⟨_, rfl⟩
      rw [hW] at HD HS2 ⊢; clear hW HS
      generalize w3.heap.size = pd at HD ⊢
      have HB := Lib.hid HS2.out.b_
      go_wp2_with (first | ((with_reducible apply wpList_load_kat (h := HD.out)); exact rfl; exact rfl; exact rfl) | ((with_reducible apply wpList_load_kat (h := HB.out)); exact rfl; exact rfl; exact rfl) | ((with_reducible apply wpList_eql_kat (c := d) (d := b) (hb := HQ.out)); exact rfl; exact rfl; exact rfl; exact rfl))
      go_ret
      exact ⟨ret_bool HR.out.symm, HS2.out.bel⟩
    ·have HN : Hid (∀ i, i < j + 1 → hit c a b i = false) := Lib.hid (fun i hi => by
      by_cases e : i = j
      ·subst e; rw [HH.out]; simp [hm]
      ·exact HNO.out i (by omega))
     have d1 : decide (m = 0) = false := (by simpa using hm); have q1 : (m == 0) = false := (by simpa using hm)
     clear HH HNO
     go_wp2_with ((with_reducible apply wpList_load_kat (h := HA.out)); exact rfl; exact rfl; exact rfl)
     refine CP.out.mono ?_
     rintro e w3 ⟨rfl, hb⟩
     have HS := Lib.hid (HS.out.step hb); clear hb CP HA
     have HS2 := Lib.hid (HS.out.step (below_new w3 (.cells d.cells 46)))
     go_upto_region 7 with ((with_reducible apply wpList_store_knew (c := d)); exact rfl; exact rfl; exact rfl; exact rfl)
     obtain ⟨w4, hW⟩ : ∃ W, w3.alloc (.cells d.cells 46) = W := ⟨_, rfl⟩
     rw [hW] at HS2 ⊢; clear hW HS
     generalize w3.heap.size = pd
     go_wp2_with fail
     go_roundg (7 - (j + 1))
     case measure => have := HG.out; omega
     case rel => exact ⟨j + 1, by omega, rfl, by go_num, HS2.out, HN.out⟩
   ·obtain rfl : j = 7 := by omega
    have HR := Lib.hid (may_none HNO.out)
    clear hst
    go_wp2_with fail
    go_ret
    exact ⟨ret_bool HR.out.symm, HS.out.bel⟩
end Go.Proofs.YtplapoenhohliaaGreat
