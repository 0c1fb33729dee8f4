/- The anchor of layer 9. -/
import Derived.Test.YtodacdooooeofaaGreatBkL
namespace Go.Proofs.YtodacdooooeofaaGreat
open Go.RowKit Go.Lib
open Sh.Plain (KV get put del Rise)
set_option linter.unusedVariables false
set_option linter.unusedSimpArgs false

theorem made2 (v : World) (b : Bk) (o p : Option Addr) (x : Cg) : Below v.heap.size v ((((v.alloc (.cells Z29 32)).alloc (.cells Z11 42)).setRow v.heap.size (b.cells o p)).setRow (v.heap.size + 1) x.cells) ∧ BkAt ((((v.alloc (.cells Z29 32)).alloc (.cells Z11 42)).setRow v.heap.size (b.cells o p)).setRow (v.heap.size + 1) x.cells) v.heap.size b o p ∧ CgAt ((((v.alloc (.cells Z29 32)).alloc (.cells Z11 42)).setRow v.heap.size (b.cells o p)).setRow (v.heap.size + 1) x.cells) (v.heap.size + 1) x := by
  obtain ⟨h1, h2, h3⟩ := new2 v Z29 Z11 32 42
  exact ⟨setRow_below (setRow_below h1 (Nat.le_refl _) _) (by omega) _, At.farRow (At.setRow h2 _) (by omega), At.setRow (At.farRow h3 (by omega)) _⟩
theorem made1 (v : World) (b : Bk) (o p : Option Addr) : Below v.heap.size v ((v.alloc (.cells Z29 32)).setRow v.heap.size (b.cells o p)) ∧ BkAt ((v.alloc (.cells Z29 32)).setRow v.heap.size (b.cells o p)) v.heap.size b o p := by
  obtain ⟨h1, h2⟩ := new1 v Z29 32
  exact ⟨setRow_below h1 (Nat.le_refl _) _, At.setRow h2 _⟩
def kU : K := ⟨0, 1, 2, 0, 0, 0, 0, 0⟩
def kA : K := ⟨1, 1, 2, 0, 0, 1, 7, 3⟩
def kC : K := ⟨1, 1, 2, 0, 0, 5, 7, 3⟩
def cg1 : Cg := ⟨1, kA, 0, 0⟩
def cg2 : Cg := ⟨2, kC, 0, 0⟩
def bk0 : Bk := newBk small 1
def bk1 : Bk := withB bk0 cg1
def bk2 : Bk := withB bk1 cg2
theorem ev0 : newB small = bk0 := by kernel_rfl
theorem ev1 : placeB bk0 kU 7 3 = (bk1, cg1, 0) := by kernel_rfl
theorem ev2 : cancelB bk1 1 8 = (zb, zg, 8) := by kernel_rfl
theorem ev3 : cancelB bk1 1 7 = (bk2, cg2, 0) := by kernel_rfl
theorem ev4 : findB bk2 1 = some kC := by kernel_rfl
theorem ev5 : applyB bk0 cg1 = (bk1, 0) := by kernel_rfl
theorem evL : bk2.live = [] := by kernel_rfl
theorem evD : bk2.done = [(2, kC)] := by kernel_rfl
theorem evI : bk2.ix = 2 := by kernel_rfl
theorem evJ : bk0.ix = 0 := by kernel_rfl
theorem evM : modeB bk0 1 = 1 := by kernel_rfl
theorem ok0 : bk0.Ok := ⟨fun _ => by decide, by decide⟩
theorem ok1 : bk1.Ok := ⟨fun _ => by decide, by decide⟩
theorem wpList_build_kU {ops : Array Oper} {rest : List Oper} {o : Oper} {a : Act} {w : World} {Q : Exit → Act → World → Prop} (ho : o.op = .build 40 #[(1, .const (.int .i64 1)), (2, .const (.int .i64 2))]) (hgd : o.guard = none) (k : wpList Tryz.prog ops Q rest (a.put o.dst kU.V) w) : wpList Tryz.prog ops Q (o :: rest) a w :=
  wpList_build_as hgd 40 _ ho kU.cells (by kernel_rfl) k
set_option maxRecDepth 100000 in
set_option maxHeartbeats 4000000 in
theorem awake_any (w : World) : Calls Tryz.prog 5 #[] w (Yes w true) := by
  have HB := Lib.hid (Below.refl w.heap.size w)
  go_enter Tryz.func5, Tryz.ntmps5
  go_upto_region 2 with (first | (go_at_call 21; (with_reducible refine (small_any _).mono ?_); rintro e va ⟨rfl, hba⟩) | (go_at_call 6; (with_reducible refine (newBook_any small _).mono ?_); rintro e v0 ⟨o0, p0, rfl, ha0, hb0⟩; have HQ : Hid (BkAt (v0.alloc (.cells Z29 32)) v0.heap.size zb none none) := Lib.hid (new1 v0 Z29 32).2) | ((with_reducible apply wpList_store_bk (b := newB small) (s := o0) (t := p0) (hq := HQ.out)); exact rfl; exact rfl; exact rfl; exact rfl))
  obtain ⟨bm0, bk0'⟩ := made1 v0 (newB small) o0 p0
  rw [ev0] at bm0 bk0' ha0 ⊢
  obtain ⟨W0, hW⟩ : ∃ W0, (v0.alloc (.cells Z29 32)).setRow v0.heap.size (bk0.cells o0 p0) = W0 := ⟨_, rfl⟩
  rw [hW] at bm0 bk0' ⊢; clear hW HQ
  have h1 := hba.trans (hb0.mono hba.size)
  have h2 := h1.trans (bm0.mono h1.size)
  have HB : Hid (Below w.heap.size w W0) := Lib.hid h2
  have BK0 : Hid (BkAt W0 v0.heap.size bk0 o0 p0) := Lib.hid bk0'; have AT0 : Hid (BAt W0 bk0 o0 p0) := Lib.hid (BAt.step ha0 bm0)
  clear bm0 bk0' ha0 hb0 hba h1 h2
  generalize v0.heap.size = q0 at *
  have CC := Lib.hid ((by have h := placeBk_any (x := kU) (n := 7) (m := 3) AT0.out ok0; rw [ev1] at h; exact h : Calls Tryz.prog 9 #[bk0.V o0 p0, kU.V, .int .i64 7, .int .i64 3] W0 (B3 W0 (bk1, cg1, 0))))
  go_upto_region 3 with (first | ((with_reducible apply wpList_load_bk (h := BK0.out)); exact rfl; exact rfl; exact rfl) | ((with_reducible apply wpList_build_kU); exact rfl; exact rfl) | (go_at_call 9; (with_reducible refine CC.out.mono ?_); rintro e v1 ⟨o1, p1, rfl, ha1, hb1⟩; have HQ : Hid (BkAt ((v1.alloc (.cells Z29 32)).alloc (.cells Z11 42)) v1.heap.size zb none none) := Lib.hid (new2 v1 Z29 Z11 32 42).2.1; have HR : Hid (CgAt (((v1.alloc (.cells Z29 32)).alloc (.cells Z11 42)).setRow v1.heap.size ((bk1).cells o1 p1)) (v1.heap.size + 1) zg) := Lib.hid (At.farRow (new2 v1 Z29 Z11 32 42).2.2 (by omega))) | ((with_reducible apply wpList_store_bk (b := bk1) (s := o1) (t := p1) (hq := HQ.out)); exact rfl; exact rfl; exact rfl; exact rfl) | ((with_reducible apply wpList_store_cg (c := cg1) (hq := HR.out)); exact rfl; exact rfl; exact rfl; exact rfl))
  obtain ⟨bm1, hbk1, hcg1⟩ := made2 v1 (bk1) o1 p1 (cg1)
  obtain ⟨W1, hW⟩ : ∃ W1, ((((v1.alloc (.cells Z29 32)).alloc (.cells Z11 42)).setRow v1.heap.size ((bk1).cells o1 p1)).setRow (v1.heap.size + 1) (cg1).cells) = W1 := ⟨_, rfl⟩
  rw [hW] at bm1 hbk1 hcg1 ⊢; clear hW HQ HR CC
  have hs1 := hb1.trans (bm1.mono hb1.size)
  have BK0 := Lib.hid (BK0.out.step hs1); have AT0 := Lib.hid (AT0.out.step hs1)
  have HB := Lib.hid (HB.out.trans (hs1.mono HB.out.size))
  have BK1 : Hid (BkAt W1 v1.heap.size (bk1) o1 p1) := Lib.hid hbk1; have CG1 : Hid (CgAt W1 (v1.heap.size + 1) (cg1)) := Lib.hid hcg1; have AT1 : Hid (BAt W1 (bk1) o1 p1) := Lib.hid (BAt.step ha1 bm1)
  clear bm1 hbk1 hcg1 hs1 ha1 hb1
  generalize v1.heap.size + 1 = r1 at *; generalize v1.heap.size = q1 at *
  have CC := Lib.hid ((by have h := cancelBk_any 1 8 AT1.out ok1; rw [ev2] at h; exact h : Calls Tryz.prog 11 #[bk1.V o1 p1, .int .i64 1, .int .i64 8] W1 (B3 W1 (zb, zg, 8))))
  go_upto_region 4 with (first | ((with_reducible apply wpList_load_bk (h := BK1.out)); exact rfl; exact rfl; exact rfl) | (go_at_call 11; (with_reducible refine CC.out.mono ?_); rintro e v2 ⟨o2, p2, rfl, ha2, hb2⟩; have HQ : Hid (BkAt ((v2.alloc (.cells Z29 32)).alloc (.cells Z11 42)) v2.heap.size zb none none) := Lib.hid (new2 v2 Z29 Z11 32 42).2.1; have HR : Hid (CgAt (((v2.alloc (.cells Z29 32)).alloc (.cells Z11 42)).setRow v2.heap.size ((zb).cells o2 p2)) (v2.heap.size + 1) zg) := Lib.hid (At.farRow (new2 v2 Z29 Z11 32 42).2.2 (by omega))) | ((with_reducible apply wpList_store_bk (b := zb) (s := o2) (t := p2) (hq := HQ.out)); exact rfl; exact rfl; exact rfl; exact rfl) | ((with_reducible apply wpList_store_cg (c := zg) (hq := HR.out)); exact rfl; exact rfl; exact rfl; exact rfl))
  obtain ⟨bm2, hbk2, hcg2⟩ := made2 v2 (zb) o2 p2 (zg)
  obtain ⟨W2, hW⟩ : ∃ W2, ((((v2.alloc (.cells Z29 32)).alloc (.cells Z11 42)).setRow v2.heap.size ((zb).cells o2 p2)).setRow (v2.heap.size + 1) (zg).cells) = W2 := ⟨_, rfl⟩
  rw [hW] at bm2 hbk2 hcg2 ⊢; clear hW HQ HR CC
  have hs2 := hb2.trans (bm2.mono hb2.size)
  have BK0 := Lib.hid (BK0.out.step hs2); have AT0 := Lib.hid (AT0.out.step hs2); have BK1 := Lib.hid (BK1.out.step hs2); have CG1 := Lib.hid (CG1.out.step hs2); have AT1 := Lib.hid (AT1.out.step hs2)
  have HB := Lib.hid (HB.out.trans (hs2.mono HB.out.size))
  have BK2 : Hid (BkAt W2 v2.heap.size (zb) o2 p2) := Lib.hid hbk2; have CG2 : Hid (CgAt W2 (v2.heap.size + 1) (zg)) := Lib.hid hcg2; have AT2 : Hid (BAt W2 (zb) o2 p2) := Lib.hid (BAt.step ha2 bm2)
  clear bm2 hbk2 hcg2 hs2 ha2 hb2
  generalize v2.heap.size + 1 = r2 at *; generalize v2.heap.size = q2 at *
  clear BK2 CG2 AT2
  have CC := Lib.hid ((by have h := cancelBk_any 1 7 AT1.out ok1; rw [ev3] at h; exact h : Calls Tryz.prog 11 #[bk1.V o1 p1, .int .i64 1, .int .i64 7] W2 (B3 W2 (bk2, cg2, 0))))
  go_upto_region 5 with (first | ((with_reducible apply wpList_load_bk (h := BK1.out)); exact rfl; exact rfl; exact rfl) | (go_at_call 11; (with_reducible refine CC.out.mono ?_); rintro e v3 ⟨o3, p3, rfl, ha3, hb3⟩; have HQ : Hid (BkAt ((v3.alloc (.cells Z29 32)).alloc (.cells Z11 42)) v3.heap.size zb none none) := Lib.hid (new2 v3 Z29 Z11 32 42).2.1; have HR : Hid (CgAt (((v3.alloc (.cells Z29 32)).alloc (.cells Z11 42)).setRow v3.heap.size ((bk2).cells o3 p3)) (v3.heap.size + 1) zg) := Lib.hid (At.farRow (new2 v3 Z29 Z11 32 42).2.2 (by omega))) | ((with_reducible apply wpList_store_bk (b := bk2) (s := o3) (t := p3) (hq := HQ.out)); exact rfl; exact rfl; exact rfl; exact rfl) | ((with_reducible apply wpList_store_cg (c := cg2) (hq := HR.out)); exact rfl; exact rfl; exact rfl; exact rfl))
  obtain ⟨bm3, hbk3, hcg3⟩ := made2 v3 (bk2) o3 p3 (cg2)
  obtain ⟨W3, hW⟩ : ∃ W3, ((((v3.alloc (.cells Z29 32)).alloc (.cells Z11 42)).setRow v3.heap.size ((bk2).cells o3 p3)).setRow (v3.heap.size + 1) (cg2).cells) = W3 := ⟨_, rfl⟩
  rw [hW] at bm3 hbk3 hcg3 ⊢; clear hW HQ HR CC
  have hs3 := hb3.trans (bm3.mono hb3.size)
  have BK0 := Lib.hid (BK0.out.step hs3); have AT0 := Lib.hid (AT0.out.step hs3); have BK1 := Lib.hid (BK1.out.step hs3); have CG1 := Lib.hid (CG1.out.step hs3); have AT1 := Lib.hid (AT1.out.step hs3)
  have HB := Lib.hid (HB.out.trans (hs3.mono HB.out.size))
  have BK3 : Hid (BkAt W3 v3.heap.size (bk2) o3 p3) := Lib.hid hbk3; have CG3 : Hid (CgAt W3 (v3.heap.size + 1) (cg2)) := Lib.hid hcg3; have AT3 : Hid (BAt W3 (bk2) o3 p3) := Lib.hid (BAt.step ha3 bm3)
  clear bm3 hbk3 hcg3 hs3 ha3 hb3
  generalize v3.heap.size + 1 = r3 at *; generalize v3.heap.size = q3 at *
  have CF : Hid (Calls Tryz.prog 17 #[bk2.V o3 p3, .int .i64 1] W3 (FPost W3 (some kC))) := Lib.hid (by have h := findB_any 1 AT3.out; rwa [ev4] at h)
  go_upto_region 6 with (first | ((with_reducible apply wpList_load_bk (h := BK3.out)); exact rfl; exact rfl; exact rfl) | (go_at_call 17; (with_reducible refine CF.out.mono ?_); rintro e v4 ⟨rfl, hb4⟩) | ((with_reducible apply wpList_store_knew (c := kC)); exact rfl; exact rfl; exact rfl; exact rfl))
  have b5 := hb4.trans ((below_new v4 (.cells kC.cells 40)).mono hb4.size)
  have hk5 := KAt.new v4 kC
  obtain ⟨W4, hW⟩ : ∃ W4, v4.alloc (.cells kC.cells 40) = W4 := ⟨_, rfl⟩
  rw [hW] at b5 hk5 ⊢; clear hW CF hb4
  have BK0 := Lib.hid (BK0.out.step b5); have AT0 := Lib.hid (AT0.out.step b5); have BK1 := Lib.hid (BK1.out.step b5); have CG1 := Lib.hid (CG1.out.step b5); have AT1 := Lib.hid (AT1.out.step b5); have BK3 := Lib.hid (BK3.out.step b5); have CG3 := Lib.hid (CG3.out.step b5); have AT3 := Lib.hid (AT3.out.step b5)
  have HB := Lib.hid (HB.out.trans (b5.mono HB.out.size))
  have KA4 : Hid (KAt W4 v4.heap.size kC) := Lib.hid hk5
  clear b5 hk5
  generalize v4.heap.size = g4 at *
  have CC : Hid (Calls Tryz.prog 15 #[bk0.V o0 p0, cg1.V] W4 fun e w' => ∃ o p, e = .returned (.tuple #[bk1.V o p, .int .i64 0]) ∧ BAt w' bk1 o p ∧ Below W4.heap.size W4 w') := Lib.hid (by have h := applyBk_any (x := cg1) AT0.out ok0; rw [ev5] at h; exact h)
  go_upto_region 7 with (first | ((with_reducible apply wpList_load_bk (h := BK0.out)); exact rfl; exact rfl; exact rfl) | ((with_reducible apply wpList_load_cg (h := CG1.out)); exact rfl; exact rfl; exact rfl) | (go_at_call 15; (with_reducible refine CC.out.mono ?_); rintro e v5 ⟨o5, p5, rfl, ha5, hb5⟩; have HQ : Hid (BkAt (v5.alloc (.cells Z29 32)) v5.heap.size zb none none) := Lib.hid (new1 v5 Z29 32).2) | ((with_reducible apply wpList_store_bk (b := bk1) (s := o5) (t := p5) (hq := HQ.out)); exact rfl; exact rfl; exact rfl; exact rfl))
  obtain ⟨bm5, hbk5⟩ := made1 v5 bk1 o5 p5
  obtain ⟨W5, hW⟩ : ∃ W5, (v5.alloc (.cells Z29 32)).setRow v5.heap.size (bk1.cells o5 p5) = W5 := ⟨_, rfl⟩
  rw [hW] at bm5 hbk5 ⊢; clear hW HQ CC
  have hs5 := hb5.trans (bm5.mono hb5.size)
  have BK0 := Lib.hid (BK0.out.step hs5); have AT0 := Lib.hid (AT0.out.step hs5); have BK1 := Lib.hid (BK1.out.step hs5); have CG1 := Lib.hid (CG1.out.step hs5); have AT1 := Lib.hid (AT1.out.step hs5); have BK3 := Lib.hid (BK3.out.step hs5); have CG3 := Lib.hid (CG3.out.step hs5); have AT3 := Lib.hid (AT3.out.step hs5); have KA4 := Lib.hid (KA4.out.step hs5)
  have HB := Lib.hid (HB.out.trans (hs5.mono HB.out.size))
  have BK5 : Hid (BkAt W5 v5.heap.size bk1 o5 p5) := Lib.hid hbk5; have AT5 : Hid (BAt W5 bk1 o5 p5) := Lib.hid (BAt.step ha5 bm5)
  clear hb5 ha5 bm5 hbk5 hs5
  generalize v5.heap.size = q5 at *
  have j0 : W5.cell? ⟨r1, 0, none⟩ = some (.int .i64 1) := CgAt.k0 CG1.out
  have j1 : W5.cell? ⟨r1, 1, none⟩ = some (.int .i64 1) := CgAt.k1 CG1.out
  have j8 : W5.cell? ⟨r1, 8, none⟩ = some (.int .i64 3) := CgAt.k8 CG1.out
  have j6 : W5.cell? ⟨r3, 6, none⟩ = some (.int .i64 5) := CgAt.k6 CG3.out
  have HK3 : Hid (W5.rangeAt r3 1 kC.cells.toList) := Lib.hid (CgAt.kk CG3.out)
  have HEK := Lib.hid (K.beq_self kC)
  have CL : Hid (Calls Tryz.prog 22 #[bk2.V o3 p3] W5 (Sh.RPost Sh.eC W5 [])) := Lib.hid (by have h := live_any AT3.out; rw [evL] at h; exact h)
  simp only [List.append_eq, List.cons_append, List.nil_append]
  go_wp2_with (first | ((with_reducible apply wpList_load_bk (h := BK3.out)); exact rfl; exact rfl; exact rfl) | ((with_reducible apply wpList_load_kat (h := KA4.out)); exact rfl; exact rfl; exact rfl) | ((with_reducible apply wpList_load_kpart (c := kC) (h := HK3.out)); exact rfl; exact rfl; exact rfl) | ((with_reducible apply wpList_eql_kat (c := kC) (d := kC) (hb := HEK.out)); exact rfl; exact rfl; exact rfl; exact rfl) | (go_at_call 22; (with_reducible refine CL.out.mono ?_)))
  rintro e v6 ⟨vl, rfl, hol, hb6⟩
  obtain ⟨OL, cL, rfl⟩ : ∃ O c, vl = .slice O 0 c := rd_len hol.rd
  clear j0 j1 j8 j6 HK3 HEK CL hol
  have BK0 := Lib.hid (BK0.out.step hb6); have AT0 := Lib.hid (AT0.out.step hb6); have BK1 := Lib.hid (BK1.out.step hb6); have CG1 := Lib.hid (CG1.out.step hb6); have AT1 := Lib.hid (AT1.out.step hb6); have BK3 := Lib.hid (BK3.out.step hb6); have CG3 := Lib.hid (CG3.out.step hb6); have AT3 := Lib.hid (AT3.out.step hb6); have KA4 := Lib.hid (KA4.out.step hb6); have BK5 := Lib.hid (BK5.out.step hb6); have AT5 := Lib.hid (AT5.out.step hb6)
  have HB := Lib.hid (HB.out.trans (hb6.mono HB.out.size))
  clear hb6
  have CD : Hid (Calls Tryz.prog 23 #[bk2.V o3 p3] v6 (Sh.RPost Sh.eC v6 [kC])) := Lib.hid (by have h := done_any AT3.out; rw [evD] at h; exact h)
  go_wp2_with (first | ((with_reducible apply wpList_load_bk (h := BK3.out)); exact rfl; exact rfl; exact rfl) | (go_at_call 23; (with_reducible refine CD.out.mono ?_)))
  rintro e v7 ⟨vd, rfl, hod, hb7⟩
  obtain ⟨OD, cD, rfl⟩ : ∃ O c, vd = .slice O 1 c := rd_len hod.rd
  clear CD hod
  have BK0 := Lib.hid (BK0.out.step hb7); have AT0 := Lib.hid (AT0.out.step hb7); have BK1 := Lib.hid (BK1.out.step hb7); have CG1 := Lib.hid (CG1.out.step hb7); have AT1 := Lib.hid (AT1.out.step hb7); have BK3 := Lib.hid (BK3.out.step hb7); have CG3 := Lib.hid (CG3.out.step hb7); have AT3 := Lib.hid (AT3.out.step hb7); have KA4 := Lib.hid (KA4.out.step hb7); have BK5 := Lib.hid (BK5.out.step hb7); have AT5 := Lib.hid (AT5.out.step hb7)
  have HB := Lib.hid (HB.out.trans (hb7.mono HB.out.size))
  clear hb7
  have CI : Hid (Calls Tryz.prog 24 #[bk2.V o3 p3] v7 (Num v7 2)) := Lib.hid (by have h := index_any bk2 o3 p3 v7; rwa [evI] at h)
  go_wp2_with (first | ((with_reducible apply wpList_load_bk (h := BK3.out)); exact rfl; exact rfl; exact rfl) | (go_at_call 24; (with_reducible refine CI.out.mono ?_)))
  rintro e v8 ⟨rfl, hb8⟩
  clear CI
  have BK0 := Lib.hid (BK0.out.step hb8); have AT0 := Lib.hid (AT0.out.step hb8); have BK1 := Lib.hid (BK1.out.step hb8); have CG1 := Lib.hid (CG1.out.step hb8); have AT1 := Lib.hid (AT1.out.step hb8); have BK3 := Lib.hid (BK3.out.step hb8); have CG3 := Lib.hid (CG3.out.step hb8); have AT3 := Lib.hid (AT3.out.step hb8); have KA4 := Lib.hid (KA4.out.step hb8); have BK5 := Lib.hid (BK5.out.step hb8); have AT5 := Lib.hid (AT5.out.step hb8)
  have HB := Lib.hid (HB.out.trans (hb8.mono HB.out.size))
  clear hb8
  have CS := Lib.hid (same_book AT5.out AT1.out)
  go_wp2_with (first | ((with_reducible apply wpList_load_bk (h := BK5.out)); exact rfl; exact rfl; exact rfl) | ((with_reducible apply wpList_load_bk (h := BK1.out)); exact rfl; exact rfl; exact rfl) | (go_at_call 25; (with_reducible refine CS.out.mono ?_)))
  rintro e v9 ⟨rfl, hb9⟩
  clear CS
  have BK0 := Lib.hid (BK0.out.step hb9); have AT0 := Lib.hid (AT0.out.step hb9); have BK1 := Lib.hid (BK1.out.step hb9); have CG1 := Lib.hid (CG1.out.step hb9); have AT1 := Lib.hid (AT1.out.step hb9); have BK3 := Lib.hid (BK3.out.step hb9); have CG3 := Lib.hid (CG3.out.step hb9); have AT3 := Lib.hid (AT3.out.step hb9); have KA4 := Lib.hid (KA4.out.step hb9); have BK5 := Lib.hid (BK5.out.step hb9); have AT5 := Lib.hid (AT5.out.step hb9)
  have HB := Lib.hid (HB.out.trans (hb9.mono HB.out.size))
  clear hb9
  have CI : Hid (Calls Tryz.prog 24 #[bk0.V o0 p0] v9 (Num v9 0)) := Lib.hid (by have h := index_any bk0 o0 p0 v9; rwa [evJ] at h)
  go_wp2_with (first | ((with_reducible apply wpList_load_bk (h := BK0.out)); exact rfl; exact rfl; exact rfl) | (go_at_call 24; (with_reducible refine CI.out.mono ?_)))
  rintro e v10 ⟨rfl, hb10⟩
  clear CI
  have BK0 := Lib.hid (BK0.out.step hb10); have AT0 := Lib.hid (AT0.out.step hb10); have BK1 := Lib.hid (BK1.out.step hb10); have CG1 := Lib.hid (CG1.out.step hb10); have AT1 := Lib.hid (AT1.out.step hb10); have BK3 := Lib.hid (BK3.out.step hb10); have CG3 := Lib.hid (CG3.out.step hb10); have AT3 := Lib.hid (AT3.out.step hb10); have KA4 := Lib.hid (KA4.out.step hb10); have BK5 := Lib.hid (BK5.out.step hb10); have AT5 := Lib.hid (AT5.out.step hb10)
  have HB := Lib.hid (HB.out.trans (hb10.mono HB.out.size))
  clear hb10
  have CI : Hid (Calls Tryz.prog 26 #[bk0.V o0 p0, .int .i64 1] v10 (Num v10 1)) := Lib.hid (by have h := mode_any bk0 o0 p0 1 v10; rwa [evM] at h)
  go_wp2_with (first | ((with_reducible apply wpList_load_bk (h := BK0.out)); exact rfl; exact rfl; exact rfl) | (go_at_call 26; (with_reducible refine CI.out.mono ?_)))
  rintro e v11 ⟨rfl, hb11⟩
  clear CI
  have BK0 := Lib.hid (BK0.out.step hb11); have AT0 := Lib.hid (AT0.out.step hb11); have BK1 := Lib.hid (BK1.out.step hb11); have CG1 := Lib.hid (CG1.out.step hb11); have AT1 := Lib.hid (AT1.out.step hb11); have BK3 := Lib.hid (BK3.out.step hb11); have CG3 := Lib.hid (CG3.out.step hb11); have AT3 := Lib.hid (AT3.out.step hb11); have KA4 := Lib.hid (KA4.out.step hb11); have BK5 := Lib.hid (BK5.out.step hb11); have AT5 := Lib.hid (AT5.out.step hb11)
  have HB := Lib.hid (HB.out.trans (hb11.mono HB.out.size))
  go_wp2_with fail
  go_ret
  exact ⟨rfl, HB.out⟩
end Go.Proofs.YtodacdooooeofaaGreat
