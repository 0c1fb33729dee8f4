/- The contract of levelled: the left side is too high. -/
import Derived.Test.YtlmdhkaplemjpaaGreatTrB
namespace Go.Proofs.YtlmdhkaplemjpaaGreat.Sh
set_option linter.unusedVariables false
open Go.RowKit Go.Lib Plain

section
variable {w W : World} {B : Nat} {v vl vr : Value} {t tl tr : T}
set_option maxRecDepth 100000 in
set_option maxHeartbeats 1600000 in
theorem lev_l1 {p q : Nat} {x y : KV} {ll lr : T} (hl : TAt w w.heap.size vl (.node ll q y lr)) (hp : PAt w p x) (hr : TAt w w.heap.size vr tr) (h1 : (T.node ll q y lr).high ≤ 100000) (hA : tr.high + 1 < (T.node ll q y lr).high) (hB : lr.high ≤ ll.high) :
    Calls Tryz.prog 118 #[vl, ptr p, vr] w (LPost w ((T.node ll q y lr).kvs ++ x :: tr.kvs)) := by
  have CL := Lib.hid (fun W (hb : Below w.heap.size w W) => high_any (hl.keep hb (Nat.le_refl _)))
  have CR := Lib.hid (fun W (hb : Below w.heap.size w W) => high_any (hr.keep hb (Nat.le_refl _)))
  obtain ⟨g, vll, vlr, rfl, hg, hq, hno, hy, hll, hlr⟩ := hl
  have hlh : ll.high ≤ 100000 ∧ lr.high ≤ 100000 := by simp only [T.high] at h1; omega
  have CLL := Lib.hid (fun W (hb : Below w.heap.size w W) => high_any (hll.keep hb (Nat.le_refl _)))
  have CLR := Lib.hid (fun W (hb : Below w.heap.size w W) => high_any (hlr.keep hb (Nat.le_refl _)))
  have CJ1 := Lib.hid (fun W (hb : Below w.heap.size w W) => joined_at hb ((hlr.keep hb (Nat.le_refl _)).mono hb.size) (hp.keep hb hp.lt) ((hr.keep hb (Nat.le_refl _)).mono hb.size) (by omega) (by omega))
  have CJ2 := Lib.hid (fun W v2 (hb : Below w.heap.size w W) (h2 : TAt W W.heap.size v2 (.node lr p x tr)) => joined_at hb ((hll.keep hb (Nat.le_refl _)).mono hb.size) (hy.keep hb hq) h2 (by omega) (by simp only [T.high]; omega))
  have c0 := hno.c0; have c1 := hno.c1; have c2 := hno.c2
  have hS : ∀ W, Below w.heap.size w W → W.cell? ⟨g, 0, none⟩ = some (ptr q) ∧ W.cell? ⟨g, 1, none⟩ = some vll := fun W hb => ⟨(hno.keep hb hg).c0, (hno.keep hb hg).c1⟩
  have HS := Lib.hid hS
  have ea : IntKind.i64.wrap (((T.node ll q y lr).high : Int) + 1) = ((T.node ll q y lr).high : Int) + 1 := IntWalk.i64_in _ (by omega)
  have eb : IntKind.i64.wrap ((tr.high : Int) + 1) = (tr.high : Int) + 1 := IntWalk.i64_in _ (by omega)
  have f1 : (tr.high : Int) + 1 < ((T.node ll q y lr).high : Int) := by omega
  have f2 : ¬ (ll.high : Int) < (lr.high : Int) := by omega
  have hk : (T.node ll q y (.node lr p x tr)).kvs = (T.node ll q y lr).kvs ++ x :: tr.kvs := by simp [T.kvs_node]
  have HK := Lib.hid hk
  have B0 : Below w.heap.size w w := Below.refl _ _
  have HB0 := Lib.hid B0
  generalize (T.node ll q y lr).kvs ++ x :: tr.kvs = L at *
  generalize T.node ll q y (.node lr p x tr) = tj at *
  generalize (T.node ll q y lr).high = a at *
  generalize tr.high = b at *
  generalize ll.high = c at *
  generalize lr.high = d at *
  generalize T.node lr p x tr = t1 at *
  clear h1 hA hB hr hp hno hy hll hlr hlh hS hk
  go_enter Tryz.func118, Tryz.ntmps118
  go_wp2_with (first | (go_at_call 122; (with_reducible refine (CL.out _ HB0.out).mono ?_); rintro e w' ⟨rfl, rfl⟩) | (go_at_call 122; (with_reducible refine (CR.out _ HB0.out).mono ?_); rintro e w' ⟨rfl, rfl⟩))
  go_quiet ((first | (go_at_call 122; (with_reducible exact quietR (CLL.out _ (below_drewN HB0.out _)))) | (go_at_call 122; (with_reducible exact quietR (CLR.out _ (below_drewN HB0.out _))))))
  go_wp2_with fail
  have B1 : Below w.heap.size w (w.drewN nq) := below_drewN HB0.out _
  go_region_held3 (fun w' => (w'.cell? ⟨g, 0, none⟩ = some (ptr q) ∧ w'.cell? ⟨g, 1, none⟩ = some vll))
    (first | exact HS.out _ (by assumption) | exact HS.out _ (below_drewN (by assumption) 1) | fail)
    (first
      | (go_at_call 117; (with_reducible refine (CJ1.out _ (by first | assumption | exact below_drewN HB0.out _)).mono ?_); rintro e w1 ⟨g1, rfl, T1, b1, d1⟩)
      | (go_at_call 117; (with_reducible refine (CJ2.out _ _ b1 T1).mono ?_); rintro e w2 ⟨g2, rfl, T2, b2, d2⟩)
      | fail)
  all_goals go_wp2_with fail
  go_ret
  exact ⟨g2, tj, rfl, T2, HK.out, b2⟩
set_option maxRecDepth 100000 in
set_option maxHeartbeats 1600000 in
theorem lev_l2 {p q s : Nat} {x y z : KV} {ll la lb : T} (hl : TAt w w.heap.size vl (.node ll q y (.node la s z lb))) (hp : PAt w p x) (hr : TAt w w.heap.size vr tr) (h1 : (T.node ll q y (.node la s z lb)).high ≤ 100000) (hA : tr.high + 1 < (T.node ll q y (.node la s z lb)).high) (hB : ll.high < (T.node la s z lb).high) :
    Calls Tryz.prog 118 #[vl, ptr p, vr] w (LPost w ((T.node ll q y (.node la s z lb)).kvs ++ x :: tr.kvs)) := by
  have CL := Lib.hid (fun W (hb : Below w.heap.size w W) => high_any (hl.keep hb (Nat.le_refl _)))
  have CR := Lib.hid (fun W (hb : Below w.heap.size w W) => high_any (hr.keep hb (Nat.le_refl _)))
  obtain ⟨g, vll, vlr, rfl, hg, hq, hno, hy, hll, hlr⟩ := hl
  have CLL := Lib.hid (fun W (hb : Below w.heap.size w W) => high_any (hll.keep hb (Nat.le_refl _)))
  have CLR := Lib.hid (fun W (hb : Below w.heap.size w W) => high_any (hlr.keep hb (Nat.le_refl _)))
  obtain ⟨i, va, vb, rfl, hi, hs, hni, hz, hla, hlb⟩ := hlr
  have hlh : ll.high ≤ 100000 ∧ la.high ≤ 100000 ∧ lb.high ≤ 100000 := by simp only [T.high] at h1; omega
  have CJ1 := Lib.hid (fun W (hb : Below w.heap.size w W) => joined_at hb ((hll.keep hb (Nat.le_refl _)).mono hb.size) (hy.keep hb hq) ((hla.keep hb (Nat.le_refl _)).mono hb.size) (by omega) (by omega))
  have CJ2 := Lib.hid (fun W (hb : Below w.heap.size w W) => joined_at hb ((hlb.keep hb (Nat.le_refl _)).mono hb.size) (hp.keep hb hp.lt) ((hr.keep hb (Nat.le_refl _)).mono hb.size) (by omega) (by omega))
  have CJ3 := Lib.hid (fun W v1 v2 (hb : Below w.heap.size w W) (h1 : TAt W W.heap.size v1 (.node ll q y la)) (h2 : TAt W W.heap.size v2 (.node lb p x tr)) => joined_at hb h1 (hz.keep hb hs) h2 (by simp only [T.high]; omega) (by simp only [T.high]; omega))
  have c0 := hno.c0; have c1 := hno.c1; have c2 := hno.c2
  have HS := Lib.hid (fun W (hb : Below w.heap.size w W) => And.intro (hno.keep hb hg).c0 (And.intro (hno.keep hb hg).c1 (And.intro (hni.keep hb hi).c0 (And.intro (hni.keep hb hi).c1 (hni.keep hb hi).c2))))
  have ea : IntKind.i64.wrap (((T.node ll q y (.node la s z lb)).high : Int) + 1) = ((T.node ll q y (.node la s z lb)).high : Int) + 1 := IntWalk.i64_in _ (by omega)
  have eb : IntKind.i64.wrap ((tr.high : Int) + 1) = (tr.high : Int) + 1 := IntWalk.i64_in _ (by omega)
  have f1 : (tr.high : Int) + 1 < ((T.node ll q y (.node la s z lb)).high : Int) := by omega
  have f2 : (ll.high : Int) < ((T.node la s z lb).high : Int) := by omega
  have hk : (T.node (.node ll q y la) s z (.node lb p x tr)).kvs = (T.node ll q y (.node la s z lb)).kvs ++ x :: tr.kvs := by simp [T.kvs_node]
  have HK := Lib.hid hk
  have B0 : Below w.heap.size w w := Below.refl _ _
  have HB0 := Lib.hid B0
  generalize (T.node ll q y (.node la s z lb)).kvs ++ x :: tr.kvs = L at *
  generalize T.node (.node ll q y la) s z (.node lb p x tr) = tj at *
  generalize (T.node ll q y (.node la s z lb)).high = a at *
  generalize tr.high = b at *
  generalize ll.high = c at *
  generalize (T.node la s z lb).high = d at *
  generalize T.node ll q y la = t1 at *
  generalize T.node lb p x tr = t2 at *
  clear h1 hA hB hr hp hno hni hy hz hll hla hlb hlh hk
  go_enter Tryz.func118, Tryz.ntmps118
  go_wp2_with (first | (go_at_call 122; (with_reducible refine (CL.out _ HB0.out).mono ?_); rintro e w' ⟨rfl, rfl⟩) | (go_at_call 122; (with_reducible refine (CR.out _ HB0.out).mono ?_); rintro e w' ⟨rfl, rfl⟩))
  go_quiet ((first | (go_at_call 122; (with_reducible exact quietR (CLL.out _ (below_drewN HB0.out _)))) | (go_at_call 122; (with_reducible exact quietR (CLR.out _ (below_drewN HB0.out _))))))
  go_wp2_with fail
  have B1 : Below w.heap.size w (w.drewN nq) := below_drewN HB0.out _
  go_region_held3 (fun w' => (w'.cell? ⟨g, 0, none⟩ = some (ptr q) ∧ w'.cell? ⟨g, 1, none⟩ = some vll ∧ w'.cell? ⟨i, 0, none⟩ = some (ptr s) ∧ w'.cell? ⟨i, 1, none⟩ = some va ∧ w'.cell? ⟨i, 2, none⟩ = some vb))
    (first | exact HS.out _ (by assumption) | exact HS.out _ (below_drewN (by assumption) 1) | fail)
    (first
      | (go_at_call 117; (with_reducible refine (CJ1.out _ (by first | assumption | exact below_drewN HB0.out _)).mono ?_); rintro e w1 ⟨g1, rfl, T1, b1, d1⟩)
      | (go_at_call 117; (with_reducible refine (CJ2.out _ (by first | assumption | exact below_drewN HB0.out _)).mono ?_); rintro e w2 ⟨g2, rfl, T2, b2, d2⟩)
      | (go_at_call 117; (with_reducible refine (CJ3.out _ _ _ b2 (T1.step d2) T2).mono ?_); rintro e w3 ⟨g3, rfl, T3, b3, d3⟩)
      | (go_at_call 117; (with_reducible refine (CJ3.out _ _ _ b1 T1 (T2.step d1)).mono ?_); rintro e w3 ⟨g3, rfl, T3, b3, d3⟩)
      | fail)
  all_goals go_wp2_with fail
  all_goals go_ret
  all_goals exact ⟨g3, tj, rfl, T3, HK.out, b3⟩
end
end Go.Proofs.YtlmdhkaplemjpaaGreat.Sh
/- The contract of levelled: the right side is too high. -/
namespace Go.Proofs.YtlmdhkaplemjpaaGreat.Sh
set_option linter.unusedVariables false
open Go.RowKit Go.Lib Plain

section
variable {w W : World} {B : Nat} {v vl vr : Value} {t tl tr : T}
set_option maxRecDepth 100000 in
set_option maxHeartbeats 1600000 in
theorem lev_r1 {p q : Nat} {x y : KV} {rl rr : T} (hl : TAt w w.heap.size vl tl) (hp : PAt w p x) (hr : TAt w w.heap.size vr (.node rl q y rr)) (h1 : (T.node rl q y rr).high ≤ 100000) (hA : tl.high + 1 < (T.node rl q y rr).high) (hB : rl.high ≤ rr.high) :
    Calls Tryz.prog 118 #[vl, ptr p, vr] w (LPost w (tl.kvs ++ x :: (T.node rl q y rr).kvs)) := by
  have CL := Lib.hid (fun W (hb : Below w.heap.size w W) => high_any (hl.keep hb (Nat.le_refl _)))
  have CR := Lib.hid (fun W (hb : Below w.heap.size w W) => high_any (hr.keep hb (Nat.le_refl _)))
  obtain ⟨g, vrl, vrr, rfl, hg, hq, hno, hy, hrl, hrr⟩ := hr
  have hlh : rl.high ≤ 100000 ∧ rr.high ≤ 100000 := by simp only [T.high] at h1; omega
  have CRL := Lib.hid (fun W (hb : Below w.heap.size w W) => high_any (hrl.keep hb (Nat.le_refl _)))
  have CRR := Lib.hid (fun W (hb : Below w.heap.size w W) => high_any (hrr.keep hb (Nat.le_refl _)))
  have CJ1 := Lib.hid (fun W (hb : Below w.heap.size w W) => joined_at hb ((hl.keep hb (Nat.le_refl _)).mono hb.size) (hp.keep hb hp.lt) ((hrl.keep hb (Nat.le_refl _)).mono hb.size) (by omega) (by omega))
  have CJ2 := Lib.hid (fun W v1 (hb : Below w.heap.size w W) (h1 : TAt W W.heap.size v1 (.node tl p x rl)) => joined_at hb h1 (hy.keep hb hq) ((hrr.keep hb (Nat.le_refl _)).mono hb.size) (by simp only [T.high]; omega) (by omega))
  have c0 := hno.c0; have c1 := hno.c1; have c2 := hno.c2
  have HS := Lib.hid (fun W (hb : Below w.heap.size w W) => And.intro (hno.keep hb hg).c0 (hno.keep hb hg).c2)
  have ea : IntKind.i64.wrap (((T.node rl q y rr).high : Int) + 1) = ((T.node rl q y rr).high : Int) + 1 := IntWalk.i64_in _ (by omega)
  have eb : IntKind.i64.wrap ((tl.high : Int) + 1) = (tl.high : Int) + 1 := IntWalk.i64_in _ (by omega)
  have f0 : ¬ ((T.node rl q y rr).high : Int) + 1 < (tl.high : Int) := by omega
  have f1 : (tl.high : Int) + 1 < ((T.node rl q y rr).high : Int) := by omega
  have f2 : ¬ (rr.high : Int) < (rl.high : Int) := by omega
  have hk : (T.node (.node tl p x rl) q y rr).kvs = tl.kvs ++ x :: (T.node rl q y rr).kvs := by simp [T.kvs_node]
  have HK := Lib.hid hk
  have B0 : Below w.heap.size w w := Below.refl _ _
  have HB0 := Lib.hid B0
  generalize tl.kvs ++ x :: (T.node rl q y rr).kvs = L at *
  generalize T.node (.node tl p x rl) q y rr = tj at *
  generalize (T.node rl q y rr).high = a at *
  generalize tl.high = b at *
  generalize rl.high = c at *
  generalize rr.high = d at *
  generalize T.node tl p x rl = t1 at *
  clear h1 hA hB hl hp hno hy hrl hrr hlh hk
  go_enter Tryz.func118, Tryz.ntmps118
  go_wp2_with (first | (go_at_call 122; (with_reducible refine (CL.out _ HB0.out).mono ?_); rintro e w' ⟨rfl, rfl⟩) | (go_at_call 122; (with_reducible refine (CR.out _ HB0.out).mono ?_); rintro e w' ⟨rfl, rfl⟩))
  go_quiet ((first | (go_at_call 122; (with_reducible exact quietR (CRL.out _ (below_drewN HB0.out _)))) | (go_at_call 122; (with_reducible exact quietR (CRR.out _ (below_drewN HB0.out _))))))
  go_wp2_with fail
  have B1 : Below w.heap.size w (w.drewN nq) := below_drewN HB0.out _
  go_region_held3 (fun w' => (w'.cell? ⟨g, 0, none⟩ = some (ptr q) ∧ w'.cell? ⟨g, 2, none⟩ = some vrr))
    (first | exact HS.out _ (by assumption) | exact HS.out _ (below_drewN (by assumption) 1) | fail)
    (first
      | (go_at_call 117; (with_reducible refine (CJ1.out _ (by first | assumption | exact below_drewN HB0.out _)).mono ?_); rintro e w1 ⟨g1, rfl, T1, b1, d1⟩)
      | (go_at_call 117; (with_reducible refine (CJ2.out _ _ b1 T1).mono ?_); rintro e w2 ⟨g2, rfl, T2, b2, d2⟩)
      | fail)
  all_goals go_wp2_with fail
  go_ret
  exact ⟨g2, tj, rfl, T2, HK.out, b2⟩
set_option maxRecDepth 100000 in
set_option maxHeartbeats 1600000 in
theorem lev_r2 {p q s : Nat} {x y z : KV} {rr ra rb : T} (hl : TAt w w.heap.size vl tl) (hp : PAt w p x) (hr : TAt w w.heap.size vr (.node (.node ra s z rb) q y rr)) (h1 : (T.node (.node ra s z rb) q y rr).high ≤ 100000) (hA : tl.high + 1 < (T.node (.node ra s z rb) q y rr).high) (hB : rr.high < (T.node ra s z rb).high) :
    Calls Tryz.prog 118 #[vl, ptr p, vr] w (LPost w (tl.kvs ++ x :: (T.node (.node ra s z rb) q y rr).kvs)) := by
  have CL := Lib.hid (fun W (hb : Below w.heap.size w W) => high_any (hl.keep hb (Nat.le_refl _)))
  have CR := Lib.hid (fun W (hb : Below w.heap.size w W) => high_any (hr.keep hb (Nat.le_refl _)))
  obtain ⟨g, vrl, vrr, rfl, hg, hq, hno, hy, hrl, hrr⟩ := hr
  have CRL := Lib.hid (fun W (hb : Below w.heap.size w W) => high_any (hrl.keep hb (Nat.le_refl _)))
  have CRR := Lib.hid (fun W (hb : Below w.heap.size w W) => high_any (hrr.keep hb (Nat.le_refl _)))
  obtain ⟨i, va, vb, rfl, hi, hs, hni, hz, hra, hrb⟩ := hrl
  have hlh : rr.high ≤ 100000 ∧ ra.high ≤ 100000 ∧ rb.high ≤ 100000 := by simp only [T.high] at h1; omega
  have CJ1 := Lib.hid (fun W (hb : Below w.heap.size w W) => joined_at hb ((hl.keep hb (Nat.le_refl _)).mono hb.size) (hp.keep hb hp.lt) ((hra.keep hb (Nat.le_refl _)).mono hb.size) (by omega) (by omega))
  have CJ2 := Lib.hid (fun W (hb : Below w.heap.size w W) => joined_at hb ((hrb.keep hb (Nat.le_refl _)).mono hb.size) (hy.keep hb hq) ((hrr.keep hb (Nat.le_refl _)).mono hb.size) (by omega) (by omega))
  have CJ3 := Lib.hid (fun W v1 v2 (hb : Below w.heap.size w W) (h1 : TAt W W.heap.size v1 (.node tl p x ra)) (h2 : TAt W W.heap.size v2 (.node rb q y rr)) => joined_at hb h1 (hz.keep hb hs) h2 (by simp only [T.high]; omega) (by simp only [T.high]; omega))
  have c0 := hno.c0; have c1 := hno.c1; have c2 := hno.c2
  have HS := Lib.hid (fun W (hb : Below w.heap.size w W) => And.intro (hno.keep hb hg).c0 (And.intro (hno.keep hb hg).c2 (And.intro (hni.keep hb hi).c0 (And.intro (hni.keep hb hi).c1 (hni.keep hb hi).c2))))
  have ea : IntKind.i64.wrap (((T.node (.node ra s z rb) q y rr).high : Int) + 1) = ((T.node (.node ra s z rb) q y rr).high : Int) + 1 := IntWalk.i64_in _ (by omega)
  have eb : IntKind.i64.wrap ((tl.high : Int) + 1) = (tl.high : Int) + 1 := IntWalk.i64_in _ (by omega)
  have f0 : ¬ ((T.node (.node ra s z rb) q y rr).high : Int) + 1 < (tl.high : Int) := by omega
  have f1 : (tl.high : Int) + 1 < ((T.node (.node ra s z rb) q y rr).high : Int) := by omega
  have f2 : (rr.high : Int) < ((T.node ra s z rb).high : Int) := by omega
  have hk : (T.node (.node tl p x ra) s z (.node rb q y rr)).kvs = tl.kvs ++ x :: (T.node (.node ra s z rb) q y rr).kvs := by simp [T.kvs_node]
  have HK := Lib.hid hk
  have B0 : Below w.heap.size w w := Below.refl _ _
  have HB0 := Lib.hid B0
  generalize tl.kvs ++ x :: (T.node (.node ra s z rb) q y rr).kvs = L at *
  generalize T.node (.node tl p x ra) s z (.node rb q y rr) = tj at *
  generalize (T.node (.node ra s z rb) q y rr).high = a at *
  generalize tl.high = b at *
  generalize rr.high = c at *
  generalize (T.node ra s z rb).high = d at *
  generalize T.node tl p x ra = t1 at *
  generalize T.node rb q y rr = t2 at *
  clear h1 hA hB hl hp hno hni hy hz hrr hra hrb hlh hk
  go_enter Tryz.func118, Tryz.ntmps118
  go_wp2_with (first | (go_at_call 122; (with_reducible refine (CL.out _ HB0.out).mono ?_); rintro e w' ⟨rfl, rfl⟩) | (go_at_call 122; (with_reducible refine (CR.out _ HB0.out).mono ?_); rintro e w' ⟨rfl, rfl⟩))
  go_quiet ((first | (go_at_call 122; (with_reducible exact quietR (CRL.out _ (below_drewN HB0.out _)))) | (go_at_call 122; (with_reducible exact quietR (CRR.out _ (below_drewN HB0.out _))))))
  go_wp2_with fail
  have B1 : Below w.heap.size w (w.drewN nq) := below_drewN HB0.out _
  go_region_held3 (fun w' => (w'.cell? ⟨g, 0, none⟩ = some (ptr q) ∧ w'.cell? ⟨g, 2, none⟩ = some vrr ∧ w'.cell? ⟨i, 0, none⟩ = some (ptr s) ∧ w'.cell? ⟨i, 1, none⟩ = some va ∧ w'.cell? ⟨i, 2, none⟩ = some vb))
    (first | exact HS.out _ (by assumption) | exact HS.out _ (below_drewN (by assumption) 1) | fail)
    (first
      | (go_at_call 117; (with_reducible refine (CJ1.out _ (by first | assumption | exact below_drewN HB0.out _)).mono ?_); rintro e w1 ⟨g1, rfl, T1, b1, d1⟩)
      | (go_at_call 117; (with_reducible refine (CJ2.out _ (by first | assumption | exact below_drewN HB0.out _)).mono ?_); rintro e w2 ⟨g2, rfl, T2, b2, d2⟩)
      | (go_at_call 117; (with_reducible refine (CJ3.out _ _ _ b2 (T1.step d2) T2).mono ?_); rintro e w3 ⟨g3, rfl, T3, b3, d3⟩)
      | (go_at_call 117; (with_reducible refine (CJ3.out _ _ _ b1 T1 (T2.step d1)).mono ?_); rintro e w3 ⟨g3, rfl, T3, b3, d3⟩)
      | fail)
  all_goals go_wp2_with fail
  all_goals go_ret
  all_goals exact ⟨g3, tj, rfl, T3, HK.out, b3⟩
/-- levelled: the tree of two sides and the pair between them -/
theorem levelled_any {p : Nat} {x : KV} (hl : TAt w w.heap.size vl tl) (hp : PAt w p x) (hr : TAt w w.heap.size vr tr) (h1 : tl.kvs.length ≤ 100000) (h2 : tr.kvs.length ≤ 100000) :
    Calls Tryz.prog 118 #[vl, ptr p, vr] w (LPost w (tl.kvs ++ x :: tr.kvs)) := by
  have g1 := tl.high_le
  have g2 := tr.high_le
  by_cases hA : tr.high + 1 < tl.high
  · cases tl with
    | nil => simp [T.high] at hA
    | node ll q y lr =>
      by_cases hB : ll.high < lr.high
      · cases lr with
        | nil => simp [T.high] at hB
        | node la s z lb => exact lev_l2 hl hp hr (by omega) hA hB
      · exact lev_l1 hl hp hr (by omega) hA (by omega)
  · by_cases hA2 : tl.high + 1 < tr.high
    · cases tr with
      | nil => simp [T.high] at hA2
      | node rl q y rr =>
        by_cases hB : rr.high < rl.high
        · cases rl with
          | nil => simp [T.high] at hB
          | node ra s z rb => exact lev_r2 hl hp hr (by omega) hA2 hB
        · exact lev_r1 hl hp hr (by omega) hA2 (by omega)
    · exact lev_none hl hp hr (by omega) (by omega) (by omega) (by omega)
end
end Go.Proofs.YtlmdhkaplemjpaaGreat.Sh
