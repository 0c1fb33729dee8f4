/- The anchor of layer 10. -/
import Derived.Test.YtedogbkkophghaaKyG
namespace Go.Proofs.Ytedogbkkophghaa
open Go.RowKit Go.Lib
open Sh.Plain (KV get put Rise)
set_option linter.unusedVariables false
set_option linter.unusedSimpArgs false

section
variable {ops : Array Oper} {rest : List Oper} {o : Oper} {a : Act} {w : World} {Q : Exit → Act → World → Prop}
theorem wpList_store_cat (x y : Tmp) (ho : o.op = .store 24 (.tmp x) (.tmp y)) (hgd : o.guard = none) {q : Nat} {c z : Cfg} (e1 : a.eval (.tmp x) = ptr q 0) (e2 : a.eval (.tmp y) = c.V) (hq : CAt w q z)
    (k : wpList Try.prog ops Q rest (a.put o.dst undef) (w.setRow q c.cells)) : wpList Try.prog ops Q (o :: rest) a w :=
  wpList_store_row hgd 24 (.tmp x) (.tmp y) ho q c.cells e1 e2 24 z.cells hq (size24 c) (by rw [z.size, c.size]) c.one k
end
abbrev Z18 : Array Value := #[.int .i64 0, .int .i64 0, .int .i64 0, .int .i64 0, .int .i64 0, .int .i64 0, .int .i64 0, .int .i64 0, .int .i64 0, .int .i64 0, .int .i64 0, .int .i64 0, .int .i64 0, .int .i64 0, .int .i64 0, .int .i64 0, .int .i64 0, .int .u32 0]
theorem new_c (w : World) : CAt (w.alloc (.cells Z18 24)) w.heap.size zc := CAt.new w zc
theorem new_y (w : World) : KyAt (w.alloc (.cells Z21 31)) w.heap.size zy none := KyAt.new w zy none
theorem madeC (v : World) (c : Cfg) : Below v.heap.size v ((v.alloc (.cells Z18 24)).setRow v.heap.size c.cells) ∧ CAt ((v.alloc (.cells Z18 24)).setRow v.heap.size c.cells) v.heap.size c :=
  ⟨setRow_below (below_new _ _) (Nat.le_refl _) _, CAt.setRow (new_c v) c⟩
theorem madeY (v : World) (b : Ky) (o : Option Addr) : Below v.heap.size v ((v.alloc (.cells Z21 31)).setRow v.heap.size (b.cells o)) ∧ KyAt ((v.alloc (.cells Z21 31)).setRow v.heap.size (b.cells o)) v.heap.size b o :=
  ⟨setRow_below (below_new _ _) (Nat.le_refl _) _, KyAt.setRow (new_y v) b o⟩
theorem YAt.made {w w' : World} {b : Ky} {o : Option Addr} (h : YAt w b o) (hb : Below w.heap.size w w') : YAt w' b o := YAt.step h hb
/-- the keys of the anchor -/
def tb : ByteArray := ⟨#[98]⟩
def tc : ByteArray := ⟨#[99]⟩
def ty : ByteArray := ⟨#[121, 101, 115]⟩
def kE : Int := 21474836489
def ky0 : Ky := makeK small
def ky1 : Ky := withY ky0 25 1 kE tb ty
theorem isU_kE : isU kE := by unfold isU kE; omega
theorem ev0 : keyK 5 9 = kE := by kernel_rfl
theorem ev1 : lookK ky0 4 1 kE tb = (zt, 4) := by kernel_rfl
theorem ev2 : lookK ky0 5 1 kE tb = (zt, 1) := by kernel_rfl
theorem ev3 : withK ky0 25 1 kE tb ty = (ky1, 0) := by kernel_rfl
theorem ev4 : lookK ky1 25 1 kE tb = (ty, 2) := by kernel_rfl
theorem ev5 : lookK ky1 25 1 kE tc = (zt, 3) := by kernel_rfl
theorem ev6 : lookK ky1 26 1 kE tb = (zt, 4) := by kernel_rfl
theorem ev7 : lookK ky1 25 2 kE tb = (zt, 1) := by kernel_rfl
theorem ev8 : (cnt 25 ky1.l).length = 1 := by kernel_rfl
theorem ev9 : (cnt 26 ky1.l).length = 0 := by kernel_rfl
theorem ev10 : stp kE = 5 := by kernel_rfl
theorem ev11 : goodK small kE 25 = true := by kernel_rfl
theorem fit0 : ky0.fit := fit_make small
set_option maxRecDepth 100000 in
set_option maxHeartbeats 4000000 in
theorem awake_any (w : World) : Calls Try.prog 7 #[] w fun e w' => e = .returned (.bool true) ∧ Below w.heap.size w w' := by
  have HNC := Lib.hid new_c; have HNY := Lib.hid new_y
  go_enter Try.func7, Try.ntmps7
  go_upto_region 2 with (first | (go_at_call 22; (with_reducible refine (small_any _).mono ?_); rintro e va ⟨rfl, hba⟩) | ((with_reducible apply wpList_store_cat (c := small) (hq := HNC.out _)); exact rfl; exact rfl; exact rfl; exact rfl))
  obtain ⟨bc, hc⟩ := madeC va small
  obtain ⟨W0, hW⟩ : ∃ W0, (va.alloc (.cells Z18 24)).setRow va.heap.size small.cells = W0 := ⟨_, rfl⟩
  rw [hW] at bc hc ⊢; clear hW
  have KC : Hid (CAt W0 va.heap.size small) := Lib.hid hc
  have HB : Hid (Below w.heap.size w W0) := Lib.hid (hba.trans (bc.mono hba.size))
  clear bc hc hba
  generalize va.heap.size = gc at *
  go_upto_region 3 with (first | ((with_reducible apply wpList_load_cat (h := KC.out)); exact rfl; exact rfl; exact rfl) | (go_at_call 8; (with_reducible refine (make_any small _).mono ?_); rintro e v0 ⟨o0, rfl, ha0, hb0⟩) | ((with_reducible apply wpList_store_ky (b := makeK small) (s := o0) (hq := HNY.out _)); exact rfl; exact rfl; exact rfl; exact rfl))
  obtain ⟨bm0, bk0'⟩ := madeY v0 (makeK small) o0
  obtain ⟨W1, hW⟩ : ∃ W1, (v0.alloc (.cells Z21 31)).setRow v0.heap.size ((makeK small).cells o0) = W1 := ⟨_, rfl⟩
  rw [hW] at bm0 bk0' ⊢; clear hW
  have hs := hb0.trans (bm0.mono hb0.size)
  have KC : Hid (CAt W1 gc small) := Lib.hid (At.step KC.out hs)
  have HB : Hid (Below w.heap.size w W1) := Lib.hid (HB.out.trans (hs.mono HB.out.size))
  have BK0 : Hid (KyAt W1 v0.heap.size ky0 o0) := Lib.hid bk0'
  have AT0 : Hid (YAt W1 ky0 o0) := Lib.hid (YAt.step ha0 bm0)
  clear bm0 bk0' ha0 hb0 hs
  generalize v0.heap.size = q0 at *
  have CK := Lib.hid (key_any 5 9 (by unfold isI; omega) (by unfold isI; omega) W1)
  rw [ev0] at CK
  go_upto_region 4 with (go_at_call 21; (with_reducible refine CK.out.mono ?_); rintro e w1 ⟨rfl, rfl⟩)
  clear CK
  have CL : Hid (Calls Try.prog 14 #[ky0.V o0, .int .i64 4, .int .i64 1, .int .u64 kE, .string tb] W1 (TAns W1 (zt, 4))) := Lib.hid (by have h := look_any 4 1 kE tb isU_kE AT0.out; rwa [ev1] at h)
  go_upto_region 5 with (first | ((with_reducible apply wpList_load_ky (h := BK0.out)); exact rfl; exact rfl; exact rfl) | (go_at_call 14; (refine CL.out.mono ?_); rintro e W2 ⟨rfl, hb2⟩))
  have KC : Hid (CAt W2 gc small) := Lib.hid (At.step KC.out hb2)
  have BK0 : Hid (KyAt W2 q0 ky0 o0) := Lib.hid (At.step BK0.out hb2)
  have AT0 : Hid (YAt W2 ky0 o0) := Lib.hid (YAt.step AT0.out hb2)
  have HB : Hid (Below w.heap.size w W2) := Lib.hid (HB.out.trans (hb2.mono HB.out.size))
  clear hb2 CL
  have CL : Hid (Calls Try.prog 14 #[ky0.V o0, .int .i64 5, .int .i64 1, .int .u64 kE, .string tb] W2 (TAns W2 (zt, 1))) := Lib.hid (by have h := look_any 5 1 kE tb isU_kE AT0.out; rwa [ev2] at h)
  go_upto_region 6 with (first | ((with_reducible apply wpList_load_ky (h := BK0.out)); exact rfl; exact rfl; exact rfl) | (go_at_call 14; (refine CL.out.mono ?_); rintro e W3 ⟨rfl, hb2⟩))
  have KC : Hid (CAt W3 gc small) := Lib.hid (At.step KC.out hb2)
  have BK0 : Hid (KyAt W3 q0 ky0 o0) := Lib.hid (At.step BK0.out hb2)
  have AT0 : Hid (YAt W3 ky0 o0) := Lib.hid (YAt.step AT0.out hb2)
  have HB : Hid (Below w.heap.size w W3) := Lib.hid (HB.out.trans (hb2.mono HB.out.size))
  clear hb2 CL
  have CL : Hid (Calls Try.prog 16 #[ky0.V o0, .int .i64 25, .int .i64 1, .int .u64 kE, .string tb, .string ty] W3 (YAns2 W3 (ky1, 0))) := Lib.hid (by have h := keysWith_any 25 1 kE tb ty isU_kE AT0.out fit0; rwa [ev3] at h)
  go_upto_region 7 with (first | ((with_reducible apply wpList_load_ky (h := BK0.out)); exact rfl; exact rfl; exact rfl) | (go_at_call 16; (refine CL.out.mono ?_); rintro e v1 ⟨o1, rfl, ha1, hb1⟩) | ((with_reducible apply wpList_store_ky (b := ky1) (s := o1) (hq := HNY.out _)); exact rfl; exact rfl; exact rfl; exact rfl))
  obtain ⟨bm1, bk1'⟩ := madeY v1 ky1 o1
  obtain ⟨W4, hW⟩ : ∃ W4, (v1.alloc (.cells Z21 31)).setRow v1.heap.size (ky1.cells o1) = W4 := ⟨_, rfl⟩
  rw [hW] at bm1 bk1' ⊢; clear hW
  have hb2 := hb1.trans (bm1.mono hb1.size)
  have AT1 : Hid (YAt W4 ky1 o1) := Lib.hid (YAt.step ha1 bm1)
  have BK1 : Hid (KyAt W4 v1.heap.size ky1 o1) := Lib.hid bk1'
  have KC : Hid (CAt W4 gc small) := Lib.hid (At.step KC.out hb2)
  have BK0 : Hid (KyAt W4 q0 ky0 o0) := Lib.hid (At.step BK0.out hb2)
  have AT0 : Hid (YAt W4 ky0 o0) := Lib.hid (YAt.step AT0.out hb2)
  have HB : Hid (Below w.heap.size w W4) := Lib.hid (HB.out.trans (hb2.mono HB.out.size))
  clear hb2 CL
  clear bm1 bk1' ha1 hb1
  generalize v1.heap.size = q1 at *
  have CL : Hid (Calls Try.prog 14 #[ky1.V o1, .int .i64 25, .int .i64 1, .int .u64 kE, .string tb] W4 (TAns W4 (ty, 2))) := Lib.hid (by have h := look_any 25 1 kE tb isU_kE AT1.out; rwa [ev4] at h)
  go_upto_region 8 with (first | ((with_reducible apply wpList_load_ky (h := BK1.out)); exact rfl; exact rfl; exact rfl) | (go_at_call 14; (refine CL.out.mono ?_); rintro e W5 ⟨rfl, hb2⟩))
  have KC : Hid (CAt W5 gc small) := Lib.hid (At.step KC.out hb2)
  have BK0 : Hid (KyAt W5 q0 ky0 o0) := Lib.hid (At.step BK0.out hb2)
  have AT0 : Hid (YAt W5 ky0 o0) := Lib.hid (YAt.step AT0.out hb2)
  have BK1 : Hid (KyAt W5 q1 ky1 o1) := Lib.hid (At.step BK1.out hb2)
  have AT1 : Hid (YAt W5 ky1 o1) := Lib.hid (YAt.step AT1.out hb2)
  have HB : Hid (Below w.heap.size w W5) := Lib.hid (HB.out.trans (hb2.mono HB.out.size))
  clear hb2 CL
  have CL : Hid (Calls Try.prog 14 #[ky1.V o1, .int .i64 25, .int .i64 1, .int .u64 kE, .string tc] W5 (TAns W5 (zt, 3))) := Lib.hid (by have h := look_any 25 1 kE tc isU_kE AT1.out; rwa [ev5] at h)
  go_upto_region 9 with (first | ((with_reducible apply wpList_load_ky (h := BK1.out)); exact rfl; exact rfl; exact rfl) | (go_at_call 14; (refine CL.out.mono ?_); rintro e W6 ⟨rfl, hb2⟩))
  have KC : Hid (CAt W6 gc small) := Lib.hid (At.step KC.out hb2)
  have BK0 : Hid (KyAt W6 q0 ky0 o0) := Lib.hid (At.step BK0.out hb2)
  have AT0 : Hid (YAt W6 ky0 o0) := Lib.hid (YAt.step AT0.out hb2)
  have BK1 : Hid (KyAt W6 q1 ky1 o1) := Lib.hid (At.step BK1.out hb2)
  have AT1 : Hid (YAt W6 ky1 o1) := Lib.hid (YAt.step AT1.out hb2)
  have HB : Hid (Below w.heap.size w W6) := Lib.hid (HB.out.trans (hb2.mono HB.out.size))
  clear hb2 CL
  have CL : Hid (Calls Try.prog 14 #[ky1.V o1, .int .i64 26, .int .i64 1, .int .u64 kE, .string tb] W6 (TAns W6 (zt, 4))) := Lib.hid (by have h := look_any 26 1 kE tb isU_kE AT1.out; rwa [ev6] at h)
  go_upto_region 10 with (first | ((with_reducible apply wpList_load_ky (h := BK1.out)); exact rfl; exact rfl; exact rfl) | (go_at_call 14; (refine CL.out.mono ?_); rintro e W7 ⟨rfl, hb2⟩))
  have KC : Hid (CAt W7 gc small) := Lib.hid (At.step KC.out hb2)
  have BK0 : Hid (KyAt W7 q0 ky0 o0) := Lib.hid (At.step BK0.out hb2)
  have AT0 : Hid (YAt W7 ky0 o0) := Lib.hid (YAt.step AT0.out hb2)
  have BK1 : Hid (KyAt W7 q1 ky1 o1) := Lib.hid (At.step BK1.out hb2)
  have AT1 : Hid (YAt W7 ky1 o1) := Lib.hid (YAt.step AT1.out hb2)
  have HB : Hid (Below w.heap.size w W7) := Lib.hid (HB.out.trans (hb2.mono HB.out.size))
  clear hb2 CL
  have CL : Hid (Calls Try.prog 14 #[ky1.V o1, .int .i64 25, .int .i64 2, .int .u64 kE, .string tb] W7 (TAns W7 (zt, 1))) := Lib.hid (by have h := look_any 25 2 kE tb isU_kE AT1.out; rwa [ev7] at h)
  go_upto_region 11 with (first | ((with_reducible apply wpList_load_ky (h := BK1.out)); exact rfl; exact rfl; exact rfl) | (go_at_call 14; (refine CL.out.mono ?_); rintro e W8 ⟨rfl, hb2⟩))
  have KC : Hid (CAt W8 gc small) := Lib.hid (At.step KC.out hb2)
  have BK0 : Hid (KyAt W8 q0 ky0 o0) := Lib.hid (At.step BK0.out hb2)
  have AT0 : Hid (YAt W8 ky0 o0) := Lib.hid (YAt.step AT0.out hb2)
  have BK1 : Hid (KyAt W8 q1 ky1 o1) := Lib.hid (At.step BK1.out hb2)
  have AT1 : Hid (YAt W8 ky1 o1) := Lib.hid (YAt.step AT1.out hb2)
  have HB : Hid (Below w.heap.size w W8) := Lib.hid (HB.out.trans (hb2.mono HB.out.size))
  clear hb2 CL
  have C1 : Hid (∀ W, YAt W ky1 o1 → Calls Try.prog 19 #[ky1.V o1, .int .i64 25] W fun e w' => e = .returned (.int .i64 1) ∧ Below W.heap.size W w') := Lib.hid (fun W h => by have h := count_any 25 h; rwa [ev8] at h)
  have C2 : Hid (∀ W, YAt W ky1 o1 → Calls Try.prog 19 #[ky1.V o1, .int .i64 26] W fun e w' => e = .returned (.int .i64 0) ∧ Below W.heap.size W w') := Lib.hid (fun W h => by have h := count_any 26 h; rwa [ev9] at h)
  have C3 : Hid (∀ W, Calls Try.prog 12 #[.int .u64 kE] W fun e w' => e = .returned (.int .i64 5) ∧ W = w') := Lib.hid (fun W => by have h := stamp_any kE isU_kE W; rwa [ev10] at h)
  have C4 : Hid (∀ W, Calls Try.prog 10 #[small.V, .int .u64 kE, .int .i64 25] W fun e w' => e = .returned (.bool true) ∧ Below W.heap.size W w') := Lib.hid (fun W => by have h := isGood_any small kE 25 isU_kE W; rwa [ev11] at h)
  clear BK0 AT0
  unfold kE at C3 C4 ⊢
  unfold ty
  go_wp2_with (first | ((with_reducible apply wpList_load_ky (h := BK1.out)); exact rfl; exact rfl; exact rfl) | (go_at_call 19; (with_reducible refine (C1.out _ AT1.out).mono ?_); rintro e X1 ⟨rfl, hx1⟩; have BK2 : Hid (KyAt X1 q1 ky1 o1) := Lib.hid (At.step BK1.out hx1); have AT2 := Lib.hid (YAt.step AT1.out hx1); have KC2 : Hid (CAt X1 gc small) := Lib.hid (At.step KC.out hx1); have HB2 := Lib.hid (HB.out.trans (hx1.mono HB.out.size)); clear hx1 BK1 AT1 KC HB) | ((with_reducible apply wpList_load_ky (h := BK2.out)); exact rfl; exact rfl; exact rfl) | (go_at_call 19; (with_reducible refine (C2.out _ AT2.out).mono ?_); rintro e X2 ⟨rfl, hx2⟩; have KC3 : Hid (CAt X2 gc small) := Lib.hid (At.step KC2.out hx2); have HB3 := Lib.hid (HB2.out.trans (hx2.mono HB2.out.size)); clear hx2 BK2 AT2 KC2 HB2) | (go_at_call 12; (with_reducible refine (C3.out _).mono ?_); rintro e X3 ⟨rfl, rfl⟩) | ((with_reducible apply wpList_load_cat (h := KC3.out)); exact rfl; exact rfl; exact rfl) | (go_at_call 10; (with_reducible refine (C4.out _).mono ?_); rintro e X4 ⟨rfl, hx4⟩; have HB4 := Lib.hid (HB3.out.trans (hx4.mono HB3.out.size))))
  go_ret
  exact ⟨rfl, HB4.out⟩
end Go.Proofs.Ytedogbkkophghaa
