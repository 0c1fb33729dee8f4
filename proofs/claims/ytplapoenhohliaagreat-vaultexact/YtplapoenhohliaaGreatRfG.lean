import Derived.Test.YtplapoenhohliaaGreatRfE
import Derived.Test.YtplapoenhohliaaGreatMay
import Derived.Test.YtplapoenhohliaaGreatBkA
namespace Go.Proofs.YtplapoenhohliaaGreat
open Go.RowKit Go.Lib
set_option linter.unusedVariables false
set_option linter.unusedSimpArgs false
def hitR (r : K × Int) (b : K) : Bool := decide (r.2 = 0) && r.1.beq b
theorem hitR_no {r : K × Int} {b : K} (h : r.2 ≠ 0) : hitR r b = false := by simp [hitR, h]
theorem hitR_ne {r : K × Int} {b : K} (h : r.1.beq b = false) : hitR r b = false := by simp [hitR, h]
theorem hitR_yes {r : K × Int} {b : K} (h0 : r.2 = 0) (h : r.1.beq b = true) : hitR r b = true := by simp [hitR, h, h0]
theorem hitR_iff {r : K × Int} {b : K} : hitR r b = true ↔ r.2 = 0 ∧ r.1 = b := by simp [hitR, K.beq_iff]
theorem rmay_ends {c : Cfg} {a b : K} (h : okc c = true) {k : Int} (h1 : 1 ≤ k) (h2 : k ≤ 4) (hh : hitR (endsK a k) b = true) : mayK c a b = true := by
 have e : k = 1 ∨ k = 2 ∨ k = 3 ∨ k = 4 := by omega
 rcases e with rfl | rfl | rfl | rfl
 ·exact may_hit h (j := 3) (by decide) hh
 ·exact may_hit h (j := 4) (by decide) hh
 ·exact may_hit h (j := 5) (by decide) hh
 ·exact may_hit h (j := 6) (by decide) hh
theorem assign_hit {c : Cfg} {a b : K} {k : Int} (hh : hitR (assignK c a k) b = true) : b.car = k ∧ isB c 1 k = true := by
 obtain ⟨h0, h1⟩ := hitR_iff.1 hh
 by_cases e1 : a.st = 1
 ·by_cases e2 : isB c 1 k = true ∧ (a.kind = 3 → a.car = k)
  ·rw [assign_yes e1 e2.1 e2.2] at h1
   subst h1
   exact ⟨rfl, e2.1⟩
  ·rw [assign_no e1 e2] at h0
   exact absurd h0 (by decide)
 ·rw [assign_st e1] at h0
  exact absurd h0 (by decide)
theorem rmay_assign {c : Cfg} {a b : K} (h : okc c = true) {k : Int} (hh : hitR (assignK c a k) b = true) : mayK c a b = true := by
 obtain ⟨rfl, _⟩ := assign_hit hh
 exact may_hit h (j := 0) (by decide) hh
theorem isB_1 {c : Cfg} (h : okc c = true) : isB c 0 1 = true := by
 have := ok_at h (k := 0) (by decide)
 have e : lo 0 = 2 := by decide
 rw [e] at this
 simp [isB, h]; omega
theorem leave_hit {c : Cfg} {a b : K} {n : Int} (h : okc c = true) (hh : hitR (leaveK c a n) b = true) : isB c 0 n = true ∧ mayK c a b = true := by
 obtain ⟨h0, h1⟩ := hitR_iff.1 hh
 by_cases e1 : a.st = 2 ∨ a.st = 3
 ·cases e2 : isB c 0 n
  ·rw [leave_no e1 e2] at h0
   exact absurd h0 (by decide)
  ·refine ⟨rfl, ?_⟩
   rcases e1 with e1 | e1
   ·rw [leave_waits e1 e2, ← leave_waits (c := c) e1 (isB_1 h)] at hh
    exact may_hit h (j := 2) (by decide) hh
   ·by_cases e3 : a.dto = n
    ·rw [leave_there e1 e2 e3] at hh
     exact may_hit h (j := 4) (by decide) hh
    ·have e4 := leave_rode e1 e2 e3
     have e5 : b.frm = n := by
      rw [← h1, e4]
      show (kfree _).frm = n
      unfold kfree
      split <;> rfl
     subst e5
     exact may_hit h (j := 1) (by decide) hh
 ·rw [leave_st e1] at h0
  exact absurd h0 (by decide)
theorem rmay_none {c : Cfg} {a b : K} (h1 : ∀ i : Int, 1 ≤ i → i < 5 → hitR (endsK a i) b = false ∧ hitR (assignK c a i) b = false) (h2 : ∀ i : Int, 1 ≤ i → i < c.get 0 + 1 → hitR (leaveK c a i) b = false) (h : okc c = true) : mayK c a b = false := by
 have hcar : c.get 1 ≤ 4 := by
  have := (ok_at h (k := 1) (by decide)).2
  have e : hi 1 = 4 := by decide
  omega
 have hlv : ∀ n, hitR (leaveK c a n) b = false := fun n => by
  cases e : hitR (leaveK c a n) b
  ·rfl
  ·obtain ⟨e2, _⟩ := leave_hit h e
   simp [isB] at e2
   rw [h2 n (by omega) (by omega)] at e
   cases e
 refine may_none fun j hj => ?_
 match j, hj with
 | 0, _ =>
  cases e : hitR (assignK c a b.car) b
  ·exact e
  ·obtain ⟨_, e2⟩ := assign_hit e
   simp [isB] at e2
   rw [(h1 b.car (by omega) (by omega)).2] at e
   cases e
 | 1, _ => exact hlv _
 | 2, _ => exact hlv _
 | 3, _ => exact (h1 1 (by decide) (by decide)).1
 | 4, _ => exact (h1 2 (by decide) (by decide)).1
 | 5, _ => exact (h1 3 (by decide) (by decide)).1
 | 6, _ => exact (h1 4 (by decide) (by decide)).1
theorem Tri.setD {w W : World} {g pa pb q : Nat} {c : Cfg} {a b z : K} (h : Tri w W g pa pb c a b) (hq : KAt W q z) (hlo : w.heap.size ≤ q) (d : K) (hne : pa ≠ q := by assumption) (hne2 : pb ≠ q := by assumption) : Tri w (W.setRow q d.cells) g pa pb c a b :=
 ⟨below_setRow h.bel hlo _, At.farRow h.cat (At.ne h.cat hq (by decide)), At.farRow h.a_ hne, At.farRow h.b_ hne2⟩
set_option maxRecDepth 100000 in
set_option maxHeartbeats 4000000 in
theorem rmay_any (c : Cfg) (a b : K) (w : World) : Calls Tryz.prog 57 #[c.V, a.V, b.V] w (Yes w (mayK c a b)) := by
 have HT := Lib.hid (Tri.new w c a b)
 have CG := Lib.hid (fun W => good_any c W)
 cases hok : okc c
 ·rw [hok] at CG
  have HR := Lib.hid (may_no (a := a) (b := b) hok); clear hok
  go_enter Tryz.func57, Tryz.ntmps57
  go_upto_region 1 with fail
  obtain ⟨W, hW⟩ : ∃ W, ((w.alloc (.cells c.cells 24)).alloc (.cells a.cells 46)).alloc (.cells b.cells 46) = W := ⟨_, rfl⟩
  rw [hW] at HT ⊢; clear hW
  generalize w.heap.size + 1 + 1 = pb at HT ⊢
  generalize w.heap.size + 1 = pa at HT ⊢
  generalize w.heap.size = g0 at HT ⊢
  have HC := Lib.hid HT.out.cat
  go_wp2_with ((with_reducible apply wpList_load_cat (h := HC.out)); exact rfl; exact rfl; exact rfl)
  refine (CG.out _).mono ?_
  rintro e w1 ⟨rfl, hb⟩
  have HT := Lib.hid (HT.out.step hb); clear hb HC
  go_wp2_with fail
  go_ret
  exact ⟨ret_bool HR.out.symm, HT.out.bel⟩
 ·rw [hok] at CG
  have h32 : 2 ≤ c.get 0 ∧ c.get 0 ≤ 32 := by
   have := ok_at hok (k := 0) (by decide)
   have e : lo 0 = 2 := by decide
   have e2 : hi 0 = 32 := by decide
   omega
  have HOK := Lib.hid hok; clear hok
  go_enter Tryz.func57, Tryz.ntmps57
  go_upto_region 1 with fail
  obtain ⟨W, hW⟩ : ∃ W, ((w.alloc (.cells c.cells 24)).alloc (.cells a.cells 46)).alloc (.cells b.cells 46) = W := ⟨_, rfl⟩
  rw [hW] at HT ⊢; clear hW
  generalize w.heap.size + 1 + 1 = pb at HT ⊢
  generalize w.heap.size + 1 = pa at HT ⊢
  generalize w.heap.size = g0 at HT ⊢
  have HC := Lib.hid HT.out.cat
  go_wp2_with ((with_reducible apply wpList_load_cat (h := HC.out)); exact rfl; exact rfl; exact rfl)
  refine (CG.out _).mono ?_
  rintro e w1 ⟨rfl, hb⟩
  have HT := Lib.hid (HT.out.step hb); clear hb HC
  go_wp2_with fail
  go_loopg [7] 4 (fun gh s7 wx => ∃ k : Int, 1 ≤ k ∧ k ≤ 5 ∧ gh = (5 - k).toNat ∧ s7 = .int .i64 k ∧ Tri w wx g0 pa pb c a b ∧ ∀ i : Int, 1 ≤ i → i < k → hitR (endsK a i) b = false ∧ hitR (assignK c a i) b = false)
  case atStart => exact ⟨1, by decide, by decide, rfl, rfl, HT.out, fun i h1 h2 => absurd h2 (by omega)⟩
  case round =>
   obtain ⟨k, hk1, hk5, hg, rfl, hst, hno⟩ := hrel
   have HG := Lib.hid hg; have HT := Lib.hid hst; have HNO := Lib.hid hno; clear hg hno hst
   by_cases hlt : k ≤ 4
   ·have dk : decide (k ≤ 4) = true := by simpa using hlt
    have CE := Lib.hid (fun W => rends_any a hk1 hlt W)
    have CA := Lib.hid (fun W => rassign_any c a k W)
    obtain ⟨r1, hr1⟩ : ∃ r, endsK a k = r := ⟨_, rfl⟩
    have HH1 : Hid (hitR (endsK a k) b = hitR r1 b) := Lib.hid (by rw [hr1])
    obtain ⟨r2, hr2⟩ : ∃ r, assignK c a k = r := ⟨_, rfl⟩
    have HH2 : Hid (hitR (assignK c a k) b = hitR r2 b) := Lib.hid (by rw [hr2])
    rw [hr1] at CE; rw [hr2] at CA; clear hr1 hr2
    obtain ⟨d1, m1⟩ := r1
    by_cases hm1 : m1 = 0
    ·subst hm1
     cases hq1 : d1.beq b
     ·have HN1 := Lib.hid (HH1.out.trans (hitR_ne hq1)); have HQ := Lib.hid hq1; clear hq1 HH1
      have HA := Lib.hid HT.out.a_
      go_wp2_with ((with_reducible apply wpList_load_kat (h := HA.out)); exact rfl; exact rfl; exact rfl)
      refine (CE.out _).mono ?_
      rintro e w3 ⟨rfl, hb⟩
      have HT := Lib.hid (HT.out.step hb); clear hb CE HA
      have HD := Lib.hid (KAt.new w3 d1); have HT2 := Lib.hid (HT.out.step (below_new w3 (.cells d1.cells 46)))
      have HL := Lib.hid (show w.heap.size ≤ w3.heap.size from HT.out.bel.size)
      have hpa : pa ≠ w3.heap.size := Nat.ne_of_lt (At.lt HT.out.a_)
      have hpb : pb ≠ w3.heap.size := Nat.ne_of_lt (At.lt HT.out.b_)
      go_upto_region 7 with ((with_reducible apply wpList_store_knew (c := d1)); exact rfl; exact rfl; exact rfl; exact rfl)
      obtain ⟨w4, hW⟩ : ∃ W, w3.alloc (.cells d1.cells 46) = W := ⟨_, rfl⟩
      rw [hW] at HD HT2 ⊢; clear hW HT
      generalize w3.heap.size = pd at HD HL hpa hpb ⊢
      have HB := Lib.hid HT2.out.b_
      go_upto_region 9 with (first | ((with_reducible apply wpList_load_kat (h := HD.out)); exact rfl; exact rfl; exact rfl) | ((with_reducible apply wpList_load_kat (h := HB.out)); exact rfl; exact rfl; exact rfl) | ((with_reducible apply wpList_eql_kat (c := d1) (d := b) (hb := HQ.out)); exact rfl; exact rfl; exact rfl; exact rfl))
      clear HQ HB
      have HA := Lib.hid HT2.out.a_; have HC := Lib.hid HT2.out.cat
      go_wp2_with (first | ((with_reducible apply wpList_load_cat (h := HC.out)); exact rfl; exact rfl; exact rfl) | ((with_reducible apply wpList_load_kat (h := HA.out)); exact rfl; exact rfl; exact rfl))
      refine (CA.out _).mono ?_
      rintro e w5 ⟨rfl, hb⟩
      have HT3 := Lib.hid (HT2.out.step hb); have HD := Lib.hid (KAt.step HD.out hb); clear hb CA HA HC HT2
      obtain ⟨d2, m2⟩ := r2
      by_cases hm2 : m2 = 0
      ·subst hm2
       cases hq2 : d2.beq b
       ·have HN2 := Lib.hid (HH2.out.trans (hitR_ne hq2)); have HQ := Lib.hid hq2; clear hq2 HH2
        go_upto_region 10 with ((with_reducible apply wpList_store_kat (c := d2) (hq := HD.out)); exact rfl; exact rfl; exact rfl; exact rfl)
        have HT4 : Hid (Tri w (w5.setRow pd d2.cells) g0 pa pb c a b) := Lib.hid (HT3.out.setD HD.out HL.out d2)
        have HD2 := Lib.hid (KAt.setRow HD.out d2)
        obtain ⟨w6, hW⟩ : ∃ W, w5.setRow pd d2.cells = W := ⟨_, rfl⟩
        rw [hW] at HD2 HT4 ⊢; clear hW HT3 HD
        have HB := Lib.hid HT4.out.b_; have HD := Lib.hid HD2.out; clear HD2
        go_wp2_with (first | ((with_reducible apply wpList_load_kat (h := HD.out)); exact rfl; exact rfl; exact rfl) | ((with_reducible apply wpList_load_kat (h := HB.out)); exact rfl; exact rfl; exact rfl) | ((with_reducible apply wpList_eql_kat (c := d2) (d := b) (hb := HQ.out)); exact rfl; exact rfl; exact rfl; exact rfl))
        go_roundg (5 - (k + 1)).toNat
        case measure => have := HG.out; omega
        case rel => exact ⟨k + 1, by omega, by omega, rfl, by go_num, HT4.out, fun i h1 h2 => by
         by_cases e : i = k
         ·subst e; exact ⟨HN1.out, HN2.out⟩
         ·exact HNO.out i h1 (by omega)⟩
       ·have HN2 := Lib.hid (HH2.out.trans (hitR_yes rfl hq2)); have HQ := Lib.hid hq2; clear hq2 HH2
        have HR := Lib.hid (rmay_assign HOK.out HN2.out)
        go_upto_region 10 with ((with_reducible apply wpList_store_kat (c := d2) (hq := HD.out)); exact rfl; exact rfl; exact rfl; exact rfl)
        have HT4 : Hid (Tri w (w5.setRow pd d2.cells) g0 pa pb c a b) := Lib.hid (HT3.out.setD HD.out HL.out d2)
        have HD2 := Lib.hid (KAt.setRow HD.out d2)
        obtain ⟨w6, hW⟩ : ∃ W, w5.setRow pd d2.cells = W := ⟨_, rfl⟩
        rw [hW] at HD2 HT4 ⊢; clear hW HT3 HD
        have HB := Lib.hid HT4.out.b_; have HD := Lib.hid HD2.out; clear HD2
        go_wp2_with (first | ((with_reducible apply wpList_load_kat (h := HD.out)); exact rfl; exact rfl; exact rfl) | ((with_reducible apply wpList_load_kat (h := HB.out)); exact rfl; exact rfl; exact rfl) | ((with_reducible apply wpList_eql_kat (c := d2) (d := b) (hb := HQ.out)); exact rfl; exact rfl; exact rfl; exact rfl))
        go_ret
        exact ⟨ret_bool HR.out.symm, HT4.out.bel⟩
      ·have HN2 := Lib.hid (HH2.out.trans (hitR_no hm2))
       have dm2 : decide (m2 = 0) = false := (by simpa using hm2); have qm2 : (m2 == 0) = false := (by simpa using hm2); clear hm2 HH2
       go_upto_region 10 with ((with_reducible apply wpList_store_kat (c := d2) (hq := HD.out)); exact rfl; exact rfl; exact rfl; exact rfl)
       have HT4 : Hid (Tri w (w5.setRow pd d2.cells) g0 pa pb c a b) := Lib.hid (HT3.out.setD HD.out HL.out d2)
       have HD2 := Lib.hid (KAt.setRow HD.out d2)
       obtain ⟨w6, hW⟩ : ∃ W, w5.setRow pd d2.cells = W := ⟨_, rfl⟩
       rw [hW] at HD2 HT4 ⊢; clear hW HT3 HD
       have HB := Lib.hid HT4.out.b_; have HD := Lib.hid HD2.out; clear HD2
       go_wp2_with fail
       go_roundg (5 - (k + 1)).toNat
       case measure => have := HG.out; omega
       case rel => exact ⟨k + 1, by omega, by omega, rfl, by go_num, HT4.out, fun i h1 h2 => by
        by_cases e : i = k
        ·subst e; exact ⟨HN1.out, HN2.out⟩
        ·exact HNO.out i h1 (by omega)⟩
     ·have HN1 := Lib.hid (HH1.out.trans (hitR_yes rfl hq1)); have HQ := Lib.hid hq1; clear hq1 HH1
      have HR := Lib.hid (rmay_ends HOK.out hk1 hlt HN1.out)
      have HA := Lib.hid HT.out.a_
      go_wp2_with ((with_reducible apply wpList_load_kat (h := HA.out)); exact rfl; exact rfl; exact rfl)
      refine (CE.out _).mono ?_
      rintro e w3 ⟨rfl, hb⟩
      have HT := Lib.hid (HT.out.step hb); clear hb CE HA
      have HD := Lib.hid (KAt.new w3 d1); have HT2 := Lib.hid (HT.out.step (below_new w3 (.cells d1.cells 46)))
      have HL := Lib.hid (show w.heap.size ≤ w3.heap.size from HT.out.bel.size)
      have hpa : pa ≠ w3.heap.size := Nat.ne_of_lt (At.lt HT.out.a_)
      have hpb : pb ≠ w3.heap.size := Nat.ne_of_lt (At.lt HT.out.b_)
      go_upto_region 7 with ((with_reducible apply wpList_store_knew (c := d1)); exact rfl; exact rfl; exact rfl; exact rfl)
      obtain ⟨w4, hW⟩ : ∃ W, w3.alloc (.cells d1.cells 46) = W := ⟨_, rfl⟩
      rw [hW] at HD HT2 ⊢; clear hW HT
      generalize w3.heap.size = pd at HD HL hpa hpb ⊢
      have HB := Lib.hid HT2.out.b_
      go_wp2_with (first | ((with_reducible apply wpList_load_kat (h := HD.out)); exact rfl; exact rfl; exact rfl) | ((with_reducible apply wpList_load_kat (h := HB.out)); exact rfl; exact rfl; exact rfl) | ((with_reducible apply wpList_eql_kat (c := d1) (d := b) (hb := HQ.out)); exact rfl; exact rfl; exact rfl; exact rfl))
      go_ret
      exact ⟨ret_bool HR.out.symm, HT2.out.bel⟩
    ·have HN1 := Lib.hid (HH1.out.trans (hitR_no hm1))
     have dm1 : decide (m1 = 0) = false := (by simpa using hm1); have qm1 : (m1 == 0) = false := (by simpa using hm1); clear hm1 HH1
     have HA := Lib.hid HT.out.a_
     go_wp2_with ((with_reducible apply wpList_load_kat (h := HA.out)); exact rfl; exact rfl; exact rfl)
     refine (CE.out _).mono ?_
     rintro e w3 ⟨rfl, hb⟩
     have HT := Lib.hid (HT.out.step hb); clear hb CE HA
     have HD := Lib.hid (KAt.new w3 d1); have HT2 := Lib.hid (HT.out.step (below_new w3 (.cells d1.cells 46)))
     have HL := Lib.hid (show w.heap.size ≤ w3.heap.size from HT.out.bel.size)
     have hpa : pa ≠ w3.heap.size := Nat.ne_of_lt (At.lt HT.out.a_)
     have hpb : pb ≠ w3.heap.size := Nat.ne_of_lt (At.lt HT.out.b_)
     go_upto_region 7 with ((with_reducible apply wpList_store_knew (c := d1)); exact rfl; exact rfl; exact rfl; exact rfl)
     obtain ⟨w4, hW⟩ : ∃ W, w3.alloc (.cells d1.cells 46) = W := ⟨_, rfl⟩
     rw [hW] at HD HT2 ⊢; clear hW HT
     generalize w3.heap.size = pd at HD HL hpa hpb ⊢
     have HB := Lib.hid HT2.out.b_
     go_upto_region 9 with fail
     clear HB
     have HA := Lib.hid HT2.out.a_; have HC := Lib.hid HT2.out.cat
     go_wp2_with (first | ((with_reducible apply wpList_load_cat (h := HC.out)); exact rfl; exact rfl; exact rfl) | ((with_reducible apply wpList_load_kat (h := HA.out)); exact rfl; exact rfl; exact rfl))
     refine (CA.out _).mono ?_
     rintro e w5 ⟨rfl, hb⟩
     have HT3 := Lib.hid (HT2.out.step hb); have HD := Lib.hid (KAt.step HD.out hb); clear hb CA HA HC HT2
     obtain ⟨d2, m2⟩ := r2
     by_cases hm2 : m2 = 0
     ·subst hm2
      cases hq2 : d2.beq b
      ·have HN2 := Lib.hid (HH2.out.trans (hitR_ne hq2)); have HQ := Lib.hid hq2; clear hq2 HH2
       go_upto_region 10 with ((with_reducible apply wpList_store_kat (c := d2) (hq := HD.out)); exact rfl; exact rfl; exact rfl; exact rfl)
       have HT4 : Hid (Tri w (w5.setRow pd d2.cells) g0 pa pb c a b) := Lib.hid (HT3.out.setD HD.out HL.out d2)
       have HD2 := Lib.hid (KAt.setRow HD.out d2)
       obtain ⟨w6, hW⟩ : ∃ W, w5.setRow pd d2.cells = W := ⟨_, rfl⟩
       rw [hW] at HD2 HT4 ⊢; clear hW HT3 HD
       have HB := Lib.hid HT4.out.b_; have HD := Lib.hid HD2.out; clear HD2
       go_wp2_with (first | ((with_reducible apply wpList_load_kat (h := HD.out)); exact rfl; exact rfl; exact rfl) | ((with_reducible apply wpList_load_kat (h := HB.out)); exact rfl; exact rfl; exact rfl) | ((with_reducible apply wpList_eql_kat (c := d2) (d := b) (hb := HQ.out)); exact rfl; exact rfl; exact rfl; exact rfl))
       go_roundg (5 - (k + 1)).toNat
       case measure => have := HG.out; omega
       case rel => exact ⟨k + 1, by omega, by omega, rfl, by go_num, HT4.out, fun i h1 h2 => by
        by_cases e : i = k
        ·subst e; exact ⟨HN1.out, HN2.out⟩
        ·exact HNO.out i h1 (by omega)⟩
      ·have HN2 := Lib.hid (HH2.out.trans (hitR_yes rfl hq2)); have HQ := Lib.hid hq2; clear hq2 HH2
       have HR := Lib.hid (rmay_assign HOK.out HN2.out)
       go_upto_region 10 with ((with_reducible apply wpList_store_kat (c := d2) (hq := HD.out)); exact rfl; exact rfl; exact rfl; exact rfl)
       have HT4 : Hid (Tri w (w5.setRow pd d2.cells) g0 pa pb c a b) := Lib.hid (HT3.out.setD HD.out HL.out d2)
       have HD2 := Lib.hid (KAt.setRow HD.out d2)
       obtain ⟨w6, hW⟩ : ∃ W, w5.setRow pd d2.cells = W := ⟨_, rfl⟩
       rw [hW] at HD2 HT4 ⊢; clear hW HT3 HD
       have HB := Lib.hid HT4.out.b_; have HD := Lib.hid HD2.out; clear HD2
       go_wp2_with (first | ((with_reducible apply wpList_load_kat (h := HD.out)); exact rfl; exact rfl; exact rfl) | ((with_reducible apply wpList_load_kat (h := HB.out)); exact rfl; exact rfl; exact rfl) | ((with_reducible apply wpList_eql_kat (c := d2) (d := b) (hb := HQ.out)); exact rfl; exact rfl; exact rfl; exact rfl))
       go_ret
       exact ⟨ret_bool HR.out.symm, HT4.out.bel⟩
     ·have HN2 := Lib.hid (HH2.out.trans (hitR_no hm2))
      have dm2 : decide (m2 = 0) = false := (by simpa using hm2); have qm2 : (m2 == 0) = false := (by simpa using hm2); clear hm2 HH2
      go_upto_region 10 with ((with_reducible apply wpList_store_kat (c := d2) (hq := HD.out)); exact rfl; exact rfl; exact rfl; exact rfl)
      have HT4 : Hid (Tri w (w5.setRow pd d2.cells) g0 pa pb c a b) := Lib.hid (HT3.out.setD HD.out HL.out d2)
      have HD2 := Lib.hid (KAt.setRow HD.out d2)
      obtain ⟨w6, hW⟩ : ∃ W, w5.setRow pd d2.cells = W := ⟨_, rfl⟩
      rw [hW] at HD2 HT4 ⊢; clear hW HT3 HD
      have HB := Lib.hid HT4.out.b_; have HD := Lib.hid HD2.out; clear HD2
      go_wp2_with fail
      go_roundg (5 - (k + 1)).toNat
      case measure => have := HG.out; omega
      case rel => exact ⟨k + 1, by omega, by omega, rfl, by go_num, HT4.out, fun i h1 h2 => by
       by_cases e : i = k
       ·subst e; exact ⟨HN1.out, HN2.out⟩
       ·exact HNO.out i h1 (by omega)⟩
   ·obtain rfl : k = 5 := by omega
    have HNO1 := Lib.hid HNO.out; clear HNO HG
    go_wp2_with fail
    go_loopg [10] (c.get 0).toNat (fun gh s10 wx => ∃ k : Int, 1 ≤ k ∧ k ≤ c.get 0 + 1 ∧ gh = (c.get 0 + 1 - k).toNat ∧ s10 = .int .i64 k ∧ Tri w wx g0 pa pb c a b ∧ ∀ i : Int, 1 ≤ i → i < k → hitR (leaveK c a i) b = false)
    case atStart => exact ⟨1, by decide, by omega, by omega, rfl, HT.out, fun i h1 h2 => absurd h2 (by omega)⟩
    case round =>
     obtain ⟨k, hk1, hk5, hg, rfl, hst, hno⟩ := hrel
     have HG := Lib.hid hg; have HT := Lib.hid hst; have HNO2 := Lib.hid hno; clear hg hno hst
     have c0 := HT.out.cat.get (k := 0) (by omega)
     by_cases hlt : k ≤ c.get 0
     ·have dk : decide (k ≤ c.get 0) = true := by simpa using hlt
      have CL := Lib.hid (fun W => rleave_any c a k W)
      obtain ⟨r1, hr1⟩ : ∃ r, leaveK c a k = r := ⟨_, rfl⟩
      have HH1 : Hid (hitR (leaveK c a k) b = hitR r1 b) := Lib.hid (by rw [hr1])
      rw [hr1] at CL; clear hr1
      obtain ⟨d1, m1⟩ := r1
      by_cases hm1 : m1 = 0
      ·subst hm1
       cases hq1 : d1.beq b
       ·have HN1 := Lib.hid (HH1.out.trans (hitR_ne hq1)); have HQ := Lib.hid hq1; clear hq1 HH1
        have HA := Lib.hid HT.out.a_; have HC := Lib.hid HT.out.cat
        go_wp2_with (first | ((with_reducible apply wpList_load_cat (h := HC.out)); exact rfl; exact rfl; exact rfl) | ((with_reducible apply wpList_load_kat (h := HA.out)); exact rfl; exact rfl; exact rfl))
        refine (CL.out _).mono ?_
        rintro e w3 ⟨rfl, hb⟩
        have HT := Lib.hid (HT.out.step hb); clear hb CL HA HC c0
        have HD := Lib.hid (KAt.new w3 d1); have HT2 := Lib.hid (HT.out.step (below_new w3 (.cells d1.cells 46)))
        go_upto_region 16 with ((with_reducible apply wpList_store_knew (c := d1)); exact rfl; exact rfl; exact rfl; exact rfl)
        obtain ⟨w4, hW⟩ : ∃ W, w3.alloc (.cells d1.cells 46) = W := ⟨_, rfl⟩
        rw [hW] at HD HT2 ⊢; clear hW HT
        generalize w3.heap.size = pd at HD ⊢
        have HB := Lib.hid HT2.out.b_
        go_wp2_with (first | ((with_reducible apply wpList_load_kat (h := HD.out)); exact rfl; exact rfl; exact rfl) | ((with_reducible apply wpList_load_kat (h := HB.out)); exact rfl; exact rfl; exact rfl) | ((with_reducible apply wpList_eql_kat (c := d1) (d := b) (hb := HQ.out)); exact rfl; exact rfl; exact rfl; exact rfl))
        go_roundg (c.get 0 + 1 - (k + 1)).toNat
        case measure => have := HG.out; omega
        case rel => exact ⟨k + 1, by omega, by omega, rfl, by go_num, HT2.out, fun i h1 h2 => by
         by_cases e : i = k
         ·subst e; exact HN1.out
         ·exact HNO2.out i h1 (by omega)⟩
       ·have HN1 := Lib.hid (HH1.out.trans (hitR_yes rfl hq1)); have HQ := Lib.hid hq1; clear hq1 HH1
        have HR := Lib.hid (leave_hit HOK.out HN1.out).2
        have HA := Lib.hid HT.out.a_; have HC := Lib.hid HT.out.cat
        go_wp2_with (first | ((with_reducible apply wpList_load_cat (h := HC.out)); exact rfl; exact rfl; exact rfl) | ((with_reducible apply wpList_load_kat (h := HA.out)); exact rfl; exact rfl; exact rfl))
        refine (CL.out _).mono ?_
        rintro e w3 ⟨rfl, hb⟩
        have HT := Lib.hid (HT.out.step hb); clear hb CL HA HC c0
        have HD := Lib.hid (KAt.new w3 d1); have HT2 := Lib.hid (HT.out.step (below_new w3 (.cells d1.cells 46)))
        go_upto_region 16 with ((with_reducible apply wpList_store_knew (c := d1)); exact rfl; exact rfl; exact rfl; exact rfl)
        obtain ⟨w4, hW⟩ : ∃ W, w3.alloc (.cells d1.cells 46) = W := ⟨_, rfl⟩
        rw [hW] at HD HT2 ⊢; clear hW HT
        generalize w3.heap.size = pd at HD ⊢
        have HB := Lib.hid HT2.out.b_
        go_wp2_with (first | ((with_reducible apply wpList_load_kat (h := HD.out)); exact rfl; exact rfl; exact rfl) | ((with_reducible apply wpList_load_kat (h := HB.out)); exact rfl; exact rfl; exact rfl) | ((with_reducible apply wpList_eql_kat (c := d1) (d := b) (hb := HQ.out)); exact rfl; exact rfl; exact rfl; exact rfl))
        go_ret
        exact ⟨ret_bool HR.out.symm, HT2.out.bel⟩
      ·have HN1 := Lib.hid (HH1.out.trans (hitR_no hm1))
       have dm1 : decide (m1 = 0) = false := (by simpa using hm1); have qm1 : (m1 == 0) = false := (by simpa using hm1); clear hm1 HH1
       have HA := Lib.hid HT.out.a_; have HC := Lib.hid HT.out.cat
       go_wp2_with (first | ((with_reducible apply wpList_load_cat (h := HC.out)); exact rfl; exact rfl; exact rfl) | ((with_reducible apply wpList_load_kat (h := HA.out)); exact rfl; exact rfl; exact rfl))
       refine (CL.out _).mono ?_
       rintro e w3 ⟨rfl, hb⟩
       have HT := Lib.hid (HT.out.step hb); clear hb CL HA HC c0
       have HD := Lib.hid (KAt.new w3 d1); have HT2 := Lib.hid (HT.out.step (below_new w3 (.cells d1.cells 46)))
       go_upto_region 16 with ((with_reducible apply wpList_store_knew (c := d1)); exact rfl; exact rfl; exact rfl; exact rfl)
       obtain ⟨w4, hW⟩ : ∃ W, w3.alloc (.cells d1.cells 46) = W := ⟨_, rfl⟩
       rw [hW] at HD HT2 ⊢; clear hW HT
       generalize w3.heap.size = pd at HD ⊢
       have HB := Lib.hid HT2.out.b_
       go_wp2_with fail
       go_roundg (c.get 0 + 1 - (k + 1)).toNat
       case measure => have := HG.out; omega
       case rel => exact ⟨k + 1, by omega, by omega, rfl, by go_num, HT2.out, fun i h1 h2 => by
        by_cases e : i = k
        ·subst e; exact HN1.out
        ·exact HNO2.out i h1 (by omega)⟩
     ·have dk : decide (k ≤ c.get 0) = false := by simpa using hlt
      have HR := Lib.hid (rmay_none HNO1.out (fun i h1 h2 => HNO2.out i h1 (by omega)) HOK.out)
      go_wp2_with fail
      go_ret
      exact ⟨ret_bool HR.out.symm, HT.out.bel⟩
end Go.Proofs.YtplapoenhohliaaGreat
