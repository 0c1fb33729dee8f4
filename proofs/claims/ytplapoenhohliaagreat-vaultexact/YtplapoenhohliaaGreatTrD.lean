import Derived.Test.YtplapoenhohliaaGreatTMem
import Derived.ProofKit
import Derived.BigQuiet
import Derived.Laws.Cover1
namespace Go.Proofs.YtplapoenhohliaaGreat.Sh
open Go.RowKit Go.Lib Plain
theorem isNaN_any (s : Int) (w : World) : Calls Tryz.prog 110 #[.int .i64 s] w fun e w' => e = .returned (.bool false) ∧ w = w' := by
 go_enter Tryz.func110, Tryz.ntmps110
 go_wp2
 go_ret
 simp
def side (a b : Int) : Int := if lt a b = true then -1 else if a = b then 0 else 1
theorem side_lt {a b : Int} (h : lt a b = true) : side a b = -1 := if_pos h
theorem side_eq (a : Int) : side a a = 0 := by unfold side; rw [lt_irrefl]; simp
theorem side_gt {a b : Int} (h : lt b a = true) : side a b = 1 := by
 unfold side; rw [lt_asymm h, if_neg (by decide), if_neg (lt_ne h).symm]
theorem side_cases (a b : Int) : (lt a b = true ∧ side a b = -1) ∨ (a = b ∧ side a b = 0) ∨ (lt b a = true ∧ side a b = 1) := by
 cases h : lt a b
 ·cases k : lt b a
  ·have := lt_conn h k; subst this; exact .inr (.inl ⟨rfl, side_eq a⟩)
  ·exact .inr (.inr ⟨rfl, side_gt k⟩)
 ·exact .inl ⟨rfl, side_lt h⟩
set_option maxRecDepth 100000 in
theorem compare_any (a b : Int) (w : World) : Calls Tryz.prog 103 #[.int .i64 a, .int .i64 b] w fun e w' => e = .returned (.int .i64 (side a b)) ∧ w = w' := by
 rcases side_cases a b with ⟨h, e⟩ | ⟨rfl, e⟩ | ⟨h, e⟩
 ·rw [e]
  have h1 : decide (a < b) = true := h
  have h2 : a < b := by simpa using h1
  have CN := Lib.hid (fun s => isNaN_any s w)
  clear h e
  go_enter Tryz.func103, Tryz.ntmps103
  go_wp2_with (first | (go_at_call 110; refine (CN.out _).mono ?_; rintro e w' ⟨rfl, rfl⟩))
  go_ret
  exact ⟨rfl, rfl⟩
 ·rw [e]
  have CN := Lib.hid (fun s => isNaN_any s w)
  clear e
  go_enter Tryz.func103, Tryz.ntmps103
  go_wp2_with (first | (go_at_call 110; refine (CN.out _).mono ?_; rintro e w' ⟨rfl, rfl⟩))
  go_ret
  exact ⟨rfl, rfl⟩
 ·rw [e]
  have h1 : decide (b < a) = true := h
  have h2 : b < a := by simpa using h1
  have h3 : ¬ a < b := by omega
  have h4 : decide (a < b) = false := by simpa using h3
  have CN := Lib.hid (fun s => isNaN_any s w)
  clear h e
  go_enter Tryz.func103, Tryz.ntmps103
  go_wp2_with (first | (go_at_call 110; refine (CN.out _).mono ?_; rintro e w' ⟨rfl, rfl⟩))
  go_ret
  exact ⟨rfl, rfl⟩
section
variable {w : World} {B : Nat} {v vl vr : Value} {t tl tr : T}
theorem high_any (h : TAt w B v t) : Calls Tryz.prog 119 #[v] w fun e w' => e = .returned (.int .i64 (t.high : Int)) ∧ w = w' := by
 rcases h.form with ⟨rfl, rfl⟩ | ⟨g, l, p, x, r, vl, vr, rfl, ht, hg, hp, hn, hx, hl, hr⟩
 ·clear h
  go_enter Tryz.func119, Tryz.ntmps119
  go_wp2
  go_ret
  exact ⟨rfl, rfl⟩
 ·have c3 := hn.c3
  generalize t.high = H at *
  clear h hn hx hl hr ht
  go_enter Tryz.func119, Tryz.ntmps119
  go_wp2
  go_ret
  exact ⟨rfl, rfl⟩
def Made (w : World) (P : T → Prop) (e : Ending) (w' : World) : Prop := ∃ v t, e = .returned v ∧ TAt w' w'.heap.size v t ∧ P t ∧ Below w.heap.size w w'
set_option maxRecDepth 100000 in
set_option maxHeartbeats 800000 in
theorem joined_run {p a b : Nat} {ol or : Option Addr} (cl : ∀ W, W = w → Calls Tryz.prog 119 #[.pointer ol] W fun e w' => e = .returned (.int .i64 (a : Int)) ∧ W = w') (cr : ∀ W, W = w → Calls Tryz.prog 119 #[(.pointer or)] W fun e w' => e = .returned (.int .i64 (b : Int)) ∧ W = w') (h1 : a ≤ 1000000) (h2 : b ≤ 1000000) :
  Calls Tryz.prog 107 #[(.pointer ol), ptr p, (.pointer or)] w fun e w' => e = .returned (ptr w.heap.size) ∧ w' = w.alloc (.cells #[ptr p, (.pointer ol), (.pointer or), .int .i64 ((1 + max a b : Nat) : Int)] 137) := by
 have CL := Lib.hid cl
 have CR := Lib.hid cr
 clear cl cr
 have ea : IntKind.i64.wrap (1 + (a : Int)) = 1 + (a : Int) := IntWalk.i64_in _ (by omega)
 have eb : IntKind.i64.wrap (1 + (b : Int)) = 1 + (b : Int) := IntWalk.i64_in _ (by omega)
 clear h1 h2
 by_cases hab : a < b
 ·rw [show max a b = b by omega]
  have ha : (a : Int) < (b : Int) := by omega
  go_enter Tryz.func107, Tryz.ntmps107
  go_wp2_with (first | (go_at_call 119; (with_reducible refine (CL.out _ rfl).mono ?_); rintro e w' ⟨rfl, rfl⟩) | (go_at_call 119; (with_reducible refine (CR.out _ rfl).mono ?_); rintro e w' ⟨rfl, rfl⟩))
  go_ret
  exact ⟨rfl, by simp⟩
 ·rw [show max a b = a by omega]
  have ha : ¬ (a : Int) < (b : Int) := by omega
  go_enter Tryz.func107, Tryz.ntmps107
  go_wp2_with (first | (go_at_call 119; (with_reducible refine (CL.out _ rfl).mono ?_); rintro e w' ⟨rfl, rfl⟩) | (go_at_call 119; (with_reducible refine (CR.out _ rfl).mono ?_); rintro e w' ⟨rfl, rfl⟩))
  go_ret
  exact ⟨rfl, by simp⟩
theorem joined_any {p : Nat} {x : KV} (hl : TAt w w.heap.size vl tl) (hp : PAt w p x) (hr : TAt w w.heap.size vr tr) (h1 : tl.high ≤ 1000000) (h2 : tr.high ≤ 1000000) :
  Calls Tryz.prog 107 #[vl, ptr p, vr] w fun e w' => ∃ g, e = .returned (ptr g) ∧ TAt w' w'.heap.size (ptr g) (.node tl p x tr) ∧ Below w.heap.size w w' := by
 obtain ⟨ol, rfl⟩ := hl.ptr
 obtain ⟨or, rfl⟩ := hr.ptr
 refine (joined_run (fun W e => by subst e; exact high_any hl) (fun W e => by subst e; exact high_any hr) h1 h2).mono ?_
 rintro e w' ⟨rfl, rfl⟩
 have hb : Below w.heap.size w (w.alloc (.cells #[ptr p, .pointer ol, .pointer or, .int .i64 ((1 + max tl.high tr.high : Nat) : Int)] 137)) := (Below.refl _ _).alloc (Nat.le_refl _) _
 refine ⟨_, rfl, ⟨_, .pointer ol, .pointer or, rfl, by simp, Nat.lt_of_lt_of_le hp.lt hb.size, At.new _ _ _, hp.step hb, hl.step hb, hr.step hb⟩, hb⟩
set_option maxRecDepth 100000 in
set_option maxHeartbeats 800000 in
theorem find_any (k : Int) (h : TAt w B v t) (hr : Rise t.kvs) :
  Calls Tryz.prog 88 #[v, .int .i64 k] w fun e w' => w = w' ∧ ((get k t.kvs = none ∧ e = .returned (.pointer none)) ∨ ∃ g p vl vr hh x, get k t.kvs = some x ∧ e = .returned (ptr g) ∧ NAt w g p vl vr hh ∧ PAt w p (k, x)) := by
 have HT := Lib.hid h; have HR := Lib.hid hr; clear h hr
 obtain ⟨G, hG⟩ : ∃ G, get k t.kvs = G := ⟨_, rfl⟩
 rw [hG]
 have HG := Lib.hid hG; clear hG
 have CC := Lib.hid (fun a b W => compare_any a b W)
 go_enter Tryz.func88, Tryz.ntmps88
 go_wp2_with fail
 go_loopg [0] t.kvs.length (fun n s0 wx => wx = w ∧ ∃ t', TAt w B s0 t' ∧ Rise t'.kvs ∧ get k t'.kvs = G ∧ n = t'.kvs.length)
 case atStart => exact ⟨rfl, t, HT.out, HR.out, HG.out, rfl⟩
 case round =>
  obtain ⟨rfl, t', ht, hr, hg, hn⟩ := hrel
  rcases ht.form with ⟨rfl, rfl⟩ | ⟨g, l, p, x, r, vl, vr, rfl, htt, hgB, hpB, hno, hx, hl, hrr⟩
  ·go_wp2_with fail
   go_ret
   exact ⟨rfl, .inl ⟨by rw [← hg]; rfl, rfl⟩⟩
  ·subst htt
   rw [T.kvs_node] at hr hg hn
   obtain ⟨r1, r2, r3, r4⟩ := hr.parts
   have c0 := hno.c0; have c1 := hno.c1; have c2 := hno.c2; have k0 := hx.c0
   have HNO := Lib.hid hno; have HX := Lib.hid hx; have HL := Lib.hid hl; have HRR := Lib.hid hrr; have R1 := Lib.hid r1; have R2 := Lib.hid r2; have R3 := Lib.hid r3; have R4 := Lib.hid r4; have HGG := Lib.hid hg; have HN := Lib.hid hn
   clear ht hno hx hl hrr r1 r2 r3 r4 hr hg hn
   rcases side_cases k x.1 with ⟨hs, he⟩ | ⟨hs, he⟩ | ⟨hs, he⟩
   ·have HS := Lib.hid hs; clear hs
    go_wp2_with (first | (go_at_call 103; (with_reducible refine (CC.out _ _ _).mono ?_); rintro e w' ⟨rfl, rfl⟩; rw [he]))
    go_roundg l.kvs.length
    case measure => have := HN.out; rw [this, List.length_append, List.length_cons]; omega
    case rel => exact ⟨rfl, l, HL.out, R1.out, by rw [← HGG.out, get_left HS.out R4.out], rfl⟩
   ·have HS := Lib.hid hs; clear hs
    go_wp2_with (first | (go_at_call 103; (with_reducible refine (CC.out _ _ _).mono ?_); rintro e w' ⟨rfl, rfl⟩; rw [he]))
    go_ret
    refine ⟨rfl, .inr ⟨g, p, vl, vr, _, x.2, ?_, rfl, HNO.out, ?_⟩⟩
    ·rw [← HGG.out, get_mid HS.out.symm R3.out]
    ·have := HX.out; rw [HS.out]; exact this
   ·have HS := Lib.hid hs; clear hs
    go_wp2_with (first | (go_at_call 103; (with_reducible refine (CC.out _ _ _).mono ?_); rintro e w' ⟨rfl, rfl⟩; rw [he]))
    go_roundg r.kvs.length
    case measure => have := HN.out; rw [this, List.length_append, List.length_cons]; omega
    case rel => exact ⟨rfl, r, HRR.out, R2.out, by rw [← HGG.out, get_right HS.out R3.out], rfl⟩
end
end Go.Proofs.YtplapoenhohliaaGreat.Sh
namespace Go.Proofs.YtplapoenhohliaaGreat.Sh
open Go.RowKit Go.Lib Plain
section
variable {w W : World} {B : Nat} {v vl vr : Value} {t tl tr : T}
set_option maxRecDepth 100000 in
set_option maxHeartbeats 800000 in
theorem first_any (h : TAt w B v t) (hn : t ≠ .nil) : Calls Tryz.prog 109 #[v] w fun e w' => w = w' ∧ ∃ p x rest, t.its = (p, x) :: rest ∧ e = .returned (ptr p) := by
 have HT := Lib.hid h; have HN := Lib.hid hn; clear h hn
 obtain ⟨I, hI⟩ : ∃ I, t.its = I := ⟨_, rfl⟩
 rw [hI]
 have HI := Lib.hid hI; clear hI
 go_enter Tryz.func109, Tryz.ntmps109
 go_wp2_with fail
 go_loopg [0] t.its.length (fun n s0 wx => wx = w ∧ ∃ t' rest, TAt w B s0 t' ∧ t' ≠ .nil ∧ I = t'.its ++ rest ∧ n = t'.its.length)
 case atStart => exact ⟨rfl, t, [], HT.out, HN.out, by rw [← HI.out, List.append_nil], rfl⟩
 case round =>
  obtain ⟨rfl, t', rest, ht, hnn, hi, hn⟩ := hrel
  rcases ht.form with ⟨rfl, rfl⟩ | ⟨g, l, p, x, r, vl, vr, rfl, htt, hgB, hpB, hno, hx, hl, hrr⟩
  ·exact absurd rfl hnn
  ·subst htt
   have c0 := hno.c0; have c1 := hno.c1
   have HII := Lib.hid hi; have HNN := Lib.hid hn; have HL := Lib.hid hl
   clear ht hno hx hrr hi hn hnn
   rcases hl.form with ⟨rfl, rfl⟩ | ⟨g2, l2, p2, x2, r2, vl2, vr2, rfl, htt, _⟩
   ·clear hl
    go_wp2_with fail
    go_ret
    exact ⟨rfl, p, x, r.its ++ rest, by rw [HII.out]; rfl, rfl⟩
   ·clear hl
    have HTT := Lib.hid htt; clear htt
    go_wp2_with fail
    go_roundg l.its.length
    case measure => have := HNN.out; rw [this, T.its, List.length_append, List.length_cons]; omega
    case rel => exact ⟨rfl, l, (p, x) :: r.its ++ rest, HL.out, by rw [HTT.out]; exact fun h => T.noConfusion h, by rw [HII.out, T.its]; simp, rfl⟩
theorem quietR {P : Program} {f : FuncId} {args : Array Value} {w : World} {n : Nat} {v : Value}
  (h : Calls P f args (w.drewN n) fun e w' => e = .returned v ∧ w.drewN n = w') : Calls P f args (w.drewN n) fun e w'' => e = .returned v ∧ ∃ m, w'' = w.drewN m :=
 h.mono fun _ _ ⟨he, hm⟩ => ⟨he, n, hm.symm⟩
def JPost (w W : World) (t : T) (e : Ending) (W' : World) : Prop := ∃ g, e = .returned (ptr g) ∧ TAt W' W'.heap.size (ptr g) t ∧ Below w.heap.size w W' ∧ Below W.heap.size W W'
theorem joined_at {p : Nat} {x : KV} (hb : Below w.heap.size w W) (hl : TAt W W.heap.size vl tl) (hp : PAt W p x) (hr : TAt W W.heap.size vr tr) (h1 : tl.high ≤ 1000000) (h2 : tr.high ≤ 1000000) :
  Calls Tryz.prog 107 #[vl, ptr p, vr] W (JPost w W (.node tl p x tr)) := by
 refine (joined_any hl hp hr h1 h2).mono ?_
 rintro e w' ⟨g, rfl, ht, hb'⟩
 exact ⟨g, rfl, ht, hb.trans (hb'.mono hb.size), hb'⟩
def LPost (w : World) (l : List KV) (e : Ending) (w' : World) : Prop := ∃ g t, e = .returned (ptr g) ∧ TAt w' w'.heap.size (ptr g) t ∧ t.kvs = l ∧ Below w.heap.size w w'
set_option maxRecDepth 100000 in
set_option maxHeartbeats 1600000 in
theorem lev_none {p : Nat} {x : KV} (hl : TAt w w.heap.size vl tl) (hp : PAt w p x) (hr : TAt w w.heap.size vr tr) (h1 : tl.high ≤ 1000000) (h2 : tr.high ≤ 1000000) (hA : tl.high ≤ tr.high + 1) (hB : tr.high ≤ tl.high + 1) :
  Calls Tryz.prog 108 #[vl, ptr p, vr] w (LPost w (tl.kvs ++ x :: tr.kvs)) := by
 have CL := Lib.hid (high_any hl)
 have CR := Lib.hid (high_any hr)
 have CJ := Lib.hid (joined_at (Below.refl _ _) hl hp hr h1 h2)
 have ea : IntKind.i64.wrap ((tl.high : Int) + 1) = (tl.high : Int) + 1 := IntWalk.i64_in _ (by omega)
 have eb : IntKind.i64.wrap ((tr.high : Int) + 1) = (tr.high : Int) + 1 := IntWalk.i64_in _ (by omega)
 have f1 : ¬ (tr.high : Int) + 1 < (tl.high : Int) := by omega
 have f2 : ¬ (tl.high : Int) + 1 < (tr.high : Int) := by omega
 have hk : (T.node tl p x tr).kvs = tl.kvs ++ x :: tr.kvs := T.kvs_node ..
 generalize T.node tl p x tr = tj at *
 generalize tl.kvs ++ x :: tr.kvs = ll at *
 generalize tl.high = a at *
 generalize tr.high = b at *
 clear h1 h2 hA hB hl hr hp
 go_enter Tryz.func108, Tryz.ntmps108
 go_wp2_with (first | (go_at_call 119; (with_reducible refine CL.out.mono ?_); rintro e w' ⟨rfl, rfl⟩) | (go_at_call 119; (with_reducible refine CR.out.mono ?_); rintro e w' ⟨rfl, rfl⟩) | (go_at_call 107; (with_reducible refine CJ.out.mono ?_); rintro e w' ⟨g, rfl, T1, b1, _⟩))
 go_ret
 exact ⟨g, tj, rfl, T1, hk, b1⟩
end
end Go.Proofs.YtplapoenhohliaaGreat.Sh
namespace Go.Proofs.YtplapoenhohliaaGreat.Sh
set_option linter.unusedVariables false
open Go.RowKit Go.Lib Plain
section
variable {w W : World} {B : Nat} {v vl vr : Value} {t tl tr : T}
set_option maxRecDepth 100000 in
set_option maxHeartbeats 1600000 in
theorem lev_l1 {p q : Nat} {x y : KV} {ll lr : T} (hl : TAt w w.heap.size vl (.node ll q y lr)) (hp : PAt w p x) (hr : TAt w w.heap.size vr tr) (h1 : (T.node ll q y lr).high ≤ 100000) (hA : tr.high + 1 < (T.node ll q y lr).high) (hB : lr.high ≤ ll.high) :
  Calls Tryz.prog 108 #[vl, ptr p, vr] w (LPost w ((T.node ll q y lr).kvs ++ x :: tr.kvs)) := by
 have CL := Lib.hid (fun W (hb : Below w.heap.size w W) => high_any (hl.keep hb (Nat.le_refl _)))
 have CR := Lib.hid (fun W (hb : Below w.heap.size w W) => high_any (hr.keep hb (Nat.le_refl _)))
 obtain ⟨g, vll, vlr, rfl, hg, hq, hno, hy, hll, hlr⟩ := hl
 have hlh : ll.high ≤ 100000 ∧ lr.high ≤ 100000 := by simp only [T.high] at h1; omega
 have CLL := Lib.hid (fun W (hb : Below w.heap.size w W) => high_any (hll.keep hb (Nat.le_refl _)))
 have CLR := Lib.hid (fun W (hb : Below w.heap.size w W) => high_any (hlr.keep hb (Nat.le_refl _)))
 have CJ1 := Lib.hid (fun W (hb : Below w.heap.size w W) => joined_at hb ((hlr.keep hb (Nat.le_refl _)).mono hb.size) (hp.keep hb hp.lt) ((hr.keep hb (Nat.le_refl _)).mono hb.size) (by omega) (by omega))
 have CJ2 := Lib.hid (fun W v2 (hb : Below w.heap.size w W) (h2 : TAt W W.heap.size v2 (.node lr p x tr)) => joined_at hb ((hll.keep hb (Nat.le_refl _)).mono hb.size) (hy.keep hb hq) h2 (by omega) (by simp only [T.high]; omega))
 have c0 := hno.c0; have c1 := hno.c1; have c2 := hno.c2
 have hS : ∀ W, Below w.heap.size w W → W.cell? ⟨g, 0, none⟩ = some (ptr q) ∧ W.cell? ⟨g, 1, none⟩ = some vll := fun W hb => ⟨(hno.keep hb hg).c0, (hno.keep hb hg).c1⟩
 have HS := Lib.hid hS
 have ea : IntKind.i64.wrap (((T.node ll q y lr).high : Int) + 1) = ((T.node ll q y lr).high : Int) + 1 := IntWalk.i64_in _ (by omega)
 have eb : IntKind.i64.wrap ((tr.high : Int) + 1) = (tr.high : Int) + 1 := IntWalk.i64_in _ (by omega)
 have f1 : (tr.high : Int) + 1 < ((T.node ll q y lr).high : Int) := by omega
 have f2 : ¬ (ll.high : Int) < (lr.high : Int) := by omega
 have hk : (T.node ll q y (.node lr p x tr)).kvs = (T.node ll q y lr).kvs ++ x :: tr.kvs := by simp [T.kvs_node]
 have HK := Lib.hid hk
 have B0 : Below w.heap.size w w := Below.refl _ _
 have HB0 := Lib.hid B0
 generalize (T.node ll q y lr).kvs ++ x :: tr.kvs = L at *
 generalize T.node ll q y (.node lr p x tr) = tj at *
 generalize (T.node ll q y lr).high = a at *
 generalize tr.high = b at *
 generalize ll.high = c at *
 generalize lr.high = d at *
 generalize T.node lr p x tr = t1 at *
 clear h1 hA hB hr hp hno hy hll hlr hlh hS hk
 go_enter Tryz.func108, Tryz.ntmps108
 go_wp2_with (first | (go_at_call 119; (with_reducible refine (CL.out _ HB0.out).mono ?_); rintro e w' ⟨rfl, rfl⟩) | (go_at_call 119; (with_reducible refine (CR.out _ HB0.out).mono ?_); rintro e w' ⟨rfl, rfl⟩))
 go_quiet ((first | (go_at_call 119; (with_reducible exact quietR (CLL.out _ (below_drewN HB0.out _)))) | (go_at_call 119; (with_reducible exact quietR (CLR.out _ (below_drewN HB0.out _))))))
 go_wp2_with fail
 have B1 : Below w.heap.size w (w.drewN nq) := below_drewN HB0.out _
 go_region_held3 (fun w' => (w'.cell? ⟨g, 0, none⟩ = some (ptr q) ∧ w'.cell? ⟨g, 1, none⟩ = some vll))
  (first | exact HS.out _ (by assumption) | exact HS.out _ (below_drewN (by assumption) 1) | fail)
  (first
   | (go_at_call 107; (with_reducible refine (CJ1.out _ (by first | assumption | exact below_drewN HB0.out _)).mono ?_); rintro e w1 ⟨g1, rfl, T1, b1, d1⟩)
   | (go_at_call 107; (with_reducible refine (CJ2.out _ _ b1 T1).mono ?_); rintro e w2 ⟨g2, rfl, T2, b2, d2⟩)
   | fail)
 all_goals go_wp2_with fail
 go_ret
 exact ⟨g2, tj, rfl, T2, HK.out, b2⟩
set_option maxRecDepth 100000 in
set_option maxHeartbeats 1600000 in
theorem lev_l2 {p q s : Nat} {x y z : KV} {ll la lb : T} (hl : TAt w w.heap.size vl (.node ll q y (.node la s z lb))) (hp : PAt w p x) (hr : TAt w w.heap.size vr tr) (h1 : (T.node ll q y (.node la s z lb)).high ≤ 100000) (hA : tr.high + 1 < (T.node ll q y (.node la s z lb)).high) (hB : ll.high < (T.node la s z lb).high) :
  Calls Tryz.prog 108 #[vl, ptr p, vr] w (LPost w ((T.node ll q y (.node la s z lb)).kvs ++ x :: tr.kvs)) := by
 have CL := Lib.hid (fun W (hb : Below w.heap.size w W) => high_any (hl.keep hb (Nat.le_refl _)))
 have CR := Lib.hid (fun W (hb : Below w.heap.size w W) => high_any (hr.keep hb (Nat.le_refl _)))
 obtain ⟨g, vll, vlr, rfl, hg, hq, hno, hy, hll, hlr⟩ := hl
 have CLL := Lib.hid (fun W (hb : Below w.heap.size w W) => high_any (hll.keep hb (Nat.le_refl _)))
 have CLR := Lib.hid (fun W (hb : Below w.heap.size w W) => high_any (hlr.keep hb (Nat.le_refl _)))
 obtain ⟨i, va, vb, rfl, hi, hs, hni, hz, hla, hlb⟩ := hlr
 have hlh : ll.high ≤ 100000 ∧ la.high ≤ 100000 ∧ lb.high ≤ 100000 := by simp only [T.high] at h1; omega
 have CJ1 := Lib.hid (fun W (hb : Below w.heap.size w W) => joined_at hb ((hll.keep hb (Nat.le_refl _)).mono hb.size) (hy.keep hb hq) ((hla.keep hb (Nat.le_refl _)).mono hb.size) (by omega) (by omega))
 have CJ2 := Lib.hid (fun W (hb : Below w.heap.size w W) => joined_at hb ((hlb.keep hb (Nat.le_refl _)).mono hb.size) (hp.keep hb hp.lt) ((hr.keep hb (Nat.le_refl _)).mono hb.size) (by omega) (by omega))
 have CJ3 := Lib.hid (fun W v1 v2 (hb : Below w.heap.size w W) (h1 : TAt W W.heap.size v1 (.node ll q y la)) (h2 : TAt W W.heap.size v2 (.node lb p x tr)) => joined_at hb h1 (hz.keep hb hs) h2 (by simp only [T.high]; omega) (by simp only [T.high]; omega))
 have c0 := hno.c0; have c1 := hno.c1; have c2 := hno.c2
 have HS := Lib.hid (fun W (hb : Below w.heap.size w W) => And.intro (hno.keep hb hg).c0 (And.intro (hno.keep hb hg).c1 (And.intro (hni.keep hb hi).c0 (And.intro (hni.keep hb hi).c1 (hni.keep hb hi).c2))))
 have ea : IntKind.i64.wrap (((T.node ll q y (.node la s z lb)).high : Int) + 1) = ((T.node ll q y (.node la s z lb)).high : Int) + 1 := IntWalk.i64_in _ (by omega)
 have eb : IntKind.i64.wrap ((tr.high : Int) + 1) = (tr.high : Int) + 1 := IntWalk.i64_in _ (by omega)
 have f1 : (tr.high : Int) + 1 < ((T.node ll q y (.node la s z lb)).high : Int) := by omega
 have f2 : (ll.high : Int) < ((T.node la s z lb).high : Int) := by omega
 have hk : (T.node (.node ll q y la) s z (.node lb p x tr)).kvs = (T.node ll q y (.node la s z lb)).kvs ++ x :: tr.kvs := by simp [T.kvs_node]
 have HK := Lib.hid hk
 have B0 : Below w.heap.size w w := Below.refl _ _
 have HB0 := Lib.hid B0
 generalize (T.node ll q y (.node la s z lb)).kvs ++ x :: tr.kvs = L at *
 generalize T.node (.node ll q y la) s z (.node lb p x tr) = tj at *
 generalize (T.node ll q y (.node la s z lb)).high = a at *
 generalize tr.high = b at *
 generalize ll.high = c at *
 generalize (T.node la s z lb).high = d at *
 generalize T.node ll q y la = t1 at *
 generalize T.node lb p x tr = t2 at *
 clear h1 hA hB hr hp hno hni hy hz hll hla hlb hlh hk
 go_enter Tryz.func108, Tryz.ntmps108
 go_wp2_with (first | (go_at_call 119; (with_reducible refine (CL.out _ HB0.out).mono ?_); rintro e w' ⟨rfl, rfl⟩) | (go_at_call 119; (with_reducible refine (CR.out _ HB0.out).mono ?_); rintro e w' ⟨rfl, rfl⟩))
 go_quiet ((first | (go_at_call 119; (with_reducible exact quietR (CLL.out _ (below_drewN HB0.out _)))) | (go_at_call 119; (with_reducible exact quietR (CLR.out _ (below_drewN HB0.out _))))))
 go_wp2_with fail
 have B1 : Below w.heap.size w (w.drewN nq) := below_drewN HB0.out _
 go_region_held3 (fun w' => (w'.cell? ⟨g, 0, none⟩ = some (ptr q) ∧ w'.cell? ⟨g, 1, none⟩ = some vll ∧ w'.cell? ⟨i, 0, none⟩ = some (ptr s) ∧ w'.cell? ⟨i, 1, none⟩ = some va ∧ w'.cell? ⟨i, 2, none⟩ = some vb))
  (first | exact HS.out _ (by assumption) | exact HS.out _ (below_drewN (by assumption) 1) | fail)
  (first
   | (go_at_call 107; (with_reducible refine (CJ1.out _ (by first | assumption | exact below_drewN HB0.out _)).mono ?_); rintro e w1 ⟨g1, rfl, T1, b1, d1⟩)
   | (go_at_call 107; (with_reducible refine (CJ2.out _ (by first | assumption | exact below_drewN HB0.out _)).mono ?_); rintro e w2 ⟨g2, rfl, T2, b2, d2⟩)
   | (go_at_call 107; (with_reducible refine (CJ3.out _ _ _ b2 (T1.step d2) T2).mono ?_); rintro e w3 ⟨g3, rfl, T3, b3, d3⟩)
   | (go_at_call 107; (with_reducible refine (CJ3.out _ _ _ b1 T1 (T2.step d1)).mono ?_); rintro e w3 ⟨g3, rfl, T3, b3, d3⟩)
   | fail)
 all_goals go_wp2_with fail
 all_goals go_ret
 all_goals exact ⟨g3, tj, rfl, T3, HK.out, b3⟩
end
end Go.Proofs.YtplapoenhohliaaGreat.Sh
namespace Go.Proofs.YtplapoenhohliaaGreat.Sh
set_option linter.unusedVariables false
open Go.RowKit Go.Lib Plain
section
variable {w W : World} {B : Nat} {v vl vr : Value} {t tl tr : T}
set_option maxRecDepth 100000 in
set_option maxHeartbeats 1600000 in
theorem lev_r1 {p q : Nat} {x y : KV} {rl rr : T} (hl : TAt w w.heap.size vl tl) (hp : PAt w p x) (hr : TAt w w.heap.size vr (.node rl q y rr)) (h1 : (T.node rl q y rr).high ≤ 100000) (hA : tl.high + 1 < (T.node rl q y rr).high) (hB : rl.high ≤ rr.high) :
  Calls Tryz.prog 108 #[vl, ptr p, vr] w (LPost w (tl.kvs ++ x :: (T.node rl q y rr).kvs)) := by
 have CL := Lib.hid (fun W (hb : Below w.heap.size w W) => high_any (hl.keep hb (Nat.le_refl _)))
 have CR := Lib.hid (fun W (hb : Below w.heap.size w W) => high_any (hr.keep hb (Nat.le_refl _)))
 obtain ⟨g, vrl, vrr, rfl, hg, hq, hno, hy, hrl, hrr⟩ := hr
 have hlh : rl.high ≤ 100000 ∧ rr.high ≤ 100000 := by simp only [T.high] at h1; omega
 have CRL := Lib.hid (fun W (hb : Below w.heap.size w W) => high_any (hrl.keep hb (Nat.le_refl _)))
 have CRR := Lib.hid (fun W (hb : Below w.heap.size w W) => high_any (hrr.keep hb (Nat.le_refl _)))
 have CJ1 := Lib.hid (fun W (hb : Below w.heap.size w W) => joined_at hb ((hl.keep hb (Nat.le_refl _)).mono hb.size) (hp.keep hb hp.lt) ((hrl.keep hb (Nat.le_refl _)).mono hb.size) (by omega) (by omega))
 have CJ2 := Lib.hid (fun W v1 (hb : Below w.heap.size w W) (h1 : TAt W W.heap.size v1 (.node tl p x rl)) => joined_at hb h1 (hy.keep hb hq) ((hrr.keep hb (Nat.le_refl _)).mono hb.size) (by simp only [T.high]; omega) (by omega))
 have c0 := hno.c0; have c1 := hno.c1; have c2 := hno.c2
 have HS := Lib.hid (fun W (hb : Below w.heap.size w W) => And.intro (hno.keep hb hg).c0 (hno.keep hb hg).c2)
 have ea : IntKind.i64.wrap (((T.node rl q y rr).high : Int) + 1) = ((T.node rl q y rr).high : Int) + 1 := IntWalk.i64_in _ (by omega)
 have eb : IntKind.i64.wrap ((tl.high : Int) + 1) = (tl.high : Int) + 1 := IntWalk.i64_in _ (by omega)
 have f0 : ¬ ((T.node rl q y rr).high : Int) + 1 < (tl.high : Int) := by omega
 have f1 : (tl.high : Int) + 1 < ((T.node rl q y rr).high : Int) := by omega
 have f2 : ¬ (rr.high : Int) < (rl.high : Int) := by omega
 have hk : (T.node (.node tl p x rl) q y rr).kvs = tl.kvs ++ x :: (T.node rl q y rr).kvs := by simp [T.kvs_node]
 have HK := Lib.hid hk
 have B0 : Below w.heap.size w w := Below.refl _ _
 have HB0 := Lib.hid B0
 generalize tl.kvs ++ x :: (T.node rl q y rr).kvs = L at *
 generalize T.node (.node tl p x rl) q y rr = tj at *
 generalize (T.node rl q y rr).high = a at *
 generalize tl.high = b at *
 generalize rl.high = c at *
 generalize rr.high = d at *
 generalize T.node tl p x rl = t1 at *
 clear h1 hA hB hl hp hno hy hrl hrr hlh hk
 go_enter Tryz.func108, Tryz.ntmps108
 go_wp2_with (first | (go_at_call 119; (with_reducible refine (CL.out _ HB0.out).mono ?_); rintro e w' ⟨rfl, rfl⟩) | (go_at_call 119; (with_reducible refine (CR.out _ HB0.out).mono ?_); rintro e w' ⟨rfl, rfl⟩))
 go_quiet ((first | (go_at_call 119; (with_reducible exact quietR (CRL.out _ (below_drewN HB0.out _)))) | (go_at_call 119; (with_reducible exact quietR (CRR.out _ (below_drewN HB0.out _))))))
 go_wp2_with fail
 have B1 : Below w.heap.size w (w.drewN nq) := below_drewN HB0.out _
 go_region_held3 (fun w' => (w'.cell? ⟨g, 0, none⟩ = some (ptr q) ∧ w'.cell? ⟨g, 2, none⟩ = some vrr))
  (first | exact HS.out _ (by assumption) | exact HS.out _ (below_drewN (by assumption) 1) | fail)
  (first
   | (go_at_call 107; (with_reducible refine (CJ1.out _ (by first | assumption | exact below_drewN HB0.out _)).mono ?_); rintro e w1 ⟨g1, rfl, T1, b1, d1⟩)
   | (go_at_call 107; (with_reducible refine (CJ2.out _ _ b1 T1).mono ?_); rintro e w2 ⟨g2, rfl, T2, b2, d2⟩)
   | fail)
 all_goals go_wp2_with fail
 go_ret
 exact ⟨g2, tj, rfl, T2, HK.out, b2⟩
set_option maxRecDepth 100000 in
set_option maxHeartbeats 1600000 in
theorem lev_r2 {p q s : Nat} {x y z : KV} {rr ra rb : T} (hl : TAt w w.heap.size vl tl) (hp : PAt w p x) (hr : TAt w w.heap.size vr (.node (.node ra s z rb) q y rr)) (h1 : (T.node (.node ra s z rb) q y rr).high ≤ 100000) (hA : tl.high + 1 < (T.node (.node ra s z rb) q y rr).high) (hB : rr.high < (T.node ra s z rb).high) :
  Calls Tryz.prog 108 #[vl, ptr p, vr] w (LPost w (tl.kvs ++ x :: (T.node (.node ra s z rb) q y rr).kvs)) := by
 have CL := Lib.hid (fun W (hb : Below w.heap.size w W) => high_any (hl.keep hb (Nat.le_refl _)))
 have CR := Lib.hid (fun W (hb : Below w.heap.size w W) => high_any (hr.keep hb (Nat.le_refl _)))
 obtain ⟨g, vrl, vrr, rfl, hg, hq, hno, hy, hrl, hrr⟩ := hr
 have CRL := Lib.hid (fun W (hb : Below w.heap.size w W) => high_any (hrl.keep hb (Nat.le_refl _)))
 have CRR := Lib.hid (fun W (hb : Below w.heap.size w W) => high_any (hrr.keep hb (Nat.le_refl _)))
 obtain ⟨i, va, vb, rfl, hi, hs, hni, hz, hra, hrb⟩ := hrl
 have hlh : rr.high ≤ 100000 ∧ ra.high ≤ 100000 ∧ rb.high ≤ 100000 := by simp only [T.high] at h1; omega
 have CJ1 := Lib.hid (fun W (hb : Below w.heap.size w W) => joined_at hb ((hl.keep hb (Nat.le_refl _)).mono hb.size) (hp.keep hb hp.lt) ((hra.keep hb (Nat.le_refl _)).mono hb.size) (by omega) (by omega))
 have CJ2 := Lib.hid (fun W (hb : Below w.heap.size w W) => joined_at hb ((hrb.keep hb (Nat.le_refl _)).mono hb.size) (hy.keep hb hq) ((hrr.keep hb (Nat.le_refl _)).mono hb.size) (by omega) (by omega))
 have CJ3 := Lib.hid (fun W v1 v2 (hb : Below w.heap.size w W) (h1 : TAt W W.heap.size v1 (.node tl p x ra)) (h2 : TAt W W.heap.size v2 (.node rb q y rr)) => joined_at hb h1 (hz.keep hb hs) h2 (by simp only [T.high]; omega) (by simp only [T.high]; omega))
 have c0 := hno.c0; have c1 := hno.c1; have c2 := hno.c2
 have HS := Lib.hid (fun W (hb : Below w.heap.size w W) => And.intro (hno.keep hb hg).c0 (And.intro (hno.keep hb hg).c2 (And.intro (hni.keep hb hi).c0 (And.intro (hni.keep hb hi).c1 (hni.keep hb hi).c2))))
 have ea : IntKind.i64.wrap (((T.node (.node ra s z rb) q y rr).high : Int) + 1) = ((T.node (.node ra s z rb) q y rr).high : Int) + 1 := IntWalk.i64_in _ (by omega)
 have eb : IntKind.i64.wrap ((tl.high : Int) + 1) = (tl.high : Int) + 1 := IntWalk.i64_in _ (by omega)
 have f0 : ¬ ((T.node (.node ra s z rb) q y rr).high : Int) + 1 < (tl.high : Int) := by omega
 have f1 : (tl.high : Int) + 1 < ((T.node (.node ra s z rb) q y rr).high : Int) := by omega
 have f2 : (rr.high : Int) < ((T.node ra s z rb).high : Int) := by omega
 have hk : (T.node (.node tl p x ra) s z (.node rb q y rr)).kvs = tl.kvs ++ x :: (T.node (.node ra s z rb) q y rr).kvs := by simp [T.kvs_node]
 have HK := Lib.hid hk
 have B0 : Below w.heap.size w w := Below.refl _ _
 have HB0 := Lib.hid B0
 generalize tl.kvs ++ x :: (T.node (.node ra s z rb) q y rr).kvs = L at *
 generalize T.node (.node tl p x ra) s z (.node rb q y rr) = tj at *
 generalize (T.node (.node ra s z rb) q y rr).high = a at *
 generalize tl.high = b at *
 generalize rr.high = c at *
 generalize (T.node ra s z rb).high = d at *
 generalize T.node tl p x ra = t1 at *
 generalize T.node rb q y rr = t2 at *
 clear h1 hA hB hl hp hno hni hy hz hrr hra hrb hlh hk
 go_enter Tryz.func108, Tryz.ntmps108
 go_wp2_with (first | (go_at_call 119; (with_reducible refine (CL.out _ HB0.out).mono ?_); rintro e w' ⟨rfl, rfl⟩) | (go_at_call 119; (with_reducible refine (CR.out _ HB0.out).mono ?_); rintro e w' ⟨rfl, rfl⟩))
 go_quiet ((first | (go_at_call 119; (with_reducible exact quietR (CRL.out _ (below_drewN HB0.out _)))) | (go_at_call 119; (with_reducible exact quietR (CRR.out _ (below_drewN HB0.out _))))))
 go_wp2_with fail
 have B1 : Below w.heap.size w (w.drewN nq) := below_drewN HB0.out _
 go_region_held3 (fun w' => (w'.cell? ⟨g, 0, none⟩ = some (ptr q) ∧ w'.cell? ⟨g, 2, none⟩ = some vrr ∧ w'.cell? ⟨i, 0, none⟩ = some (ptr s) ∧ w'.cell? ⟨i, 1, none⟩ = some va ∧ w'.cell? ⟨i, 2, none⟩ = some vb))
  (first | exact HS.out _ (by assumption) | exact HS.out _ (below_drewN (by assumption) 1) | fail)
  (first
   | (go_at_call 107; (with_reducible refine (CJ1.out _ (by first | assumption | exact below_drewN HB0.out _)).mono ?_); rintro e w1 ⟨g1, rfl, T1, b1, d1⟩)
   | (go_at_call 107; (with_reducible refine (CJ2.out _ (by first | assumption | exact below_drewN HB0.out _)).mono ?_); rintro e w2 ⟨g2, rfl, T2, b2, d2⟩)
   | (go_at_call 107; (with_reducible refine (CJ3.out _ _ _ b2 (T1.step d2) T2).mono ?_); rintro e w3 ⟨g3, rfl, T3, b3, d3⟩)
   | (go_at_call 107; (with_reducible refine (CJ3.out _ _ _ b1 T1 (T2.step d1)).mono ?_); rintro e w3 ⟨g3, rfl, T3, b3, d3⟩)
   | fail)
 all_goals go_wp2_with fail
 all_goals go_ret
 all_goals exact ⟨g3, tj, rfl, T3, HK.out, b3⟩
theorem levelled_any {p : Nat} {x : KV} (hl : TAt w w.heap.size vl tl) (hp : PAt w p x) (hr : TAt w w.heap.size vr tr) (h1 : tl.kvs.length ≤ 100000) (h2 : tr.kvs.length ≤ 100000) :
  Calls Tryz.prog 108 #[vl, ptr p, vr] w (LPost w (tl.kvs ++ x :: tr.kvs)) := by
 have g1 := tl.high_le
 have g2 := tr.high_le
 by_cases hA : tr.high + 1 < tl.high
 ·cases tl with
  | nil => simp [T.high] at hA
  | node ll q y lr =>
   by_cases hB : ll.high < lr.high
   ·cases lr with
    | nil => simp [T.high] at hB
    | node la s z lb => exact lev_l2 hl hp hr (by omega) hA hB
   ·exact lev_l1 hl hp hr (by omega) hA (by omega)
 ·by_cases hA2 : tl.high + 1 < tr.high
  ·cases tr with
   | nil => simp [T.high] at hA2
   | node rl q y rr =>
    by_cases hB : rr.high < rl.high
    ·cases rl with
     | nil => simp [T.high] at hB
     | node ra s z rb => exact lev_r2 hl hp hr (by omega) hA2 hB
    ·exact lev_r1 hl hp hr (by omega) hA2 (by omega)
  ·exact lev_none hl hp hr (by omega) (by omega) (by omega) (by omega)
end
end Go.Proofs.YtplapoenhohliaaGreat.Sh
