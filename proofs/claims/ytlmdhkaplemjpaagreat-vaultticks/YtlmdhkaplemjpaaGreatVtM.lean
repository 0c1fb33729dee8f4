/- Ticks make nothing stale: the walk. -/
import Derived.Test.YtlmdhkaplemjpaaGreatVtL
import Derived.Deep.CutBlock
namespace Go.Proofs.YtlmdhkaplemjpaaGreat
open Go.RowKit Go.Lib
open Sh.Plain (KV put get del Rise)
set_option linter.unusedVariables false
set_option linter.unusedSimpArgs false

/-- what was just placed can be cancelled by who placed it -/
theorem cancel_mine {c : Cfg} {x : K} {d : Bk} {ch : Cg} (h : placeB (newB c) x 1 0 = (d, ch, 0)) : ∃ d2 y, cancelB d 1 1 = (d2, y, 0) := by
  obtain ⟨hok, ht, hl, he⟩ := placeB_ok (b := newB c) (x := x) (n := 1) (m := 0) (by rw [h])
  have hn0 : newB c = newBk c (c.get 1).toNat ∨ newB c = zb := by unfold newB; split <;> simp
  have hc : okc c = true := by
    rcases hn0 with e | e
    · rw [e] at hok; exact hok
    · rw [e] at hok; exact absurd hok (by decide)
  have hn : newB c = newBk c (c.get 1).toNat := if_pos hc
  rw [hn] at he h hl
  rw [h] at he
  have hd : d = { newBk c (c.get 1).toNat with ix := 0 + 1, live := Sh.wput (c.get 3).toNat (0 + 1) { x with id := 0 + 1, own := 1, born := 0, st := 1 } [] } := congrArg Prod.fst he
  have h3 := cfg_nums hc
  have hw : Sh.wput (c.get 3).toNat (0 + 1) { x with id := 0 + 1, own := 1, born := 0, st := 1 } [] = [((0 + 1 : Int), ({ x with id := 0 + 1, own := 1, born := 0, st := 1 } : K))] := by
    unfold Sh.wput
    rw [if_pos (by unfold Sh.wok; simp; omega)]
    rfl
  have hf : findB d 1 = some ({ x with id := 0 + 1, own := 1, born := 0, st := 1 } : K) := by
    rw [hd, hw]; rfl
  obtain ⟨D, y, hcx⟩ := cancel_step (t := d) (i := 1) (x := ({ x with id := 0 + 1, own := 1, born := 0, st := 1 } : K)) (by rw [hd]; exact nil_of_bad hc) hf rfl rfl (by rw [hd]; show (0 + 1 : Int) ≠ top; decide)
  exact ⟨_, y, hcx⟩
theorem tick_num (tk : Int) : ∃ N : Nat, wrap64 ((IntKind.u64.wrap tk).tmod 40) = (N : Int) ∧ N < 40 := by
  have h0 : 0 ≤ IntKind.u64.wrap tk := by rw [IntKind.wrap_u64]; omega
  have h1 : (IntKind.u64.wrap tk).tmod 40 = IntKind.u64.wrap tk % 40 := Int.tmod_eq_emod_of_nonneg h0
  have h2 : 0 ≤ IntKind.u64.wrap tk % 40 ∧ IntKind.u64.wrap tk % 40 < 40 := ⟨Int.emod_nonneg _ (by decide), Int.emod_lt_of_pos _ (by decide)⟩
  refine ⟨(IntKind.u64.wrap tk % 40).toNat, ?_, by omega⟩
  rw [h1, IntWalk.wrap64_in _ (by omega)]
  omega
theorem run_eql39_self {ρ : Operand → Value} {w : World} {d : Option Tmp} {t t2 : TypeId} {pos : String} {af : Array Edge} {gd : Option (Nat × Bool)} {x y : Operand} {c : Cg} (e1 : ρ x = c.V) (e2 : ρ y = c.V) : (execOp ρ { dst := d, op := Op.binOp .eql 48 x y t2, type := t, pos := pos, after := af, guard := gd }).run Tryz.prog w = .ok (.value (.bool true)) w := by
  have h := run_eql39 (d := d) (t := t) (t2 := t2) (pos := pos) (af := af) (gd := gd) (w := w) e1 e2
  rwa [Cg.beq_self] at h
theorem newB_ix (c : Cfg) : (newB c).ix = 0 := by unfold newB; split <;> rfl
/-- a vault at another tick -/
def Vt.upTo (x : Vt) (t : Int) : Vt := ⟨⟨x.s.b, x.s.o, x.s.p, x.s.k, t⟩, x.v, x.n, x.m⟩
theorem upto_one {ch : Cg} (h : ch.ix = 1) : upto [ch] 1 = 1 := by unfold upto; simp [h]
theorem since_one {ch : Cg} (h : ch.ix = 1) : since [ch] 1 = [] := by unfold since; rw [upto_one h]; rfl
theorem since_y {y : Cg} (h : y.ix = 2) : since [y] 1 = [y] := by unfold since upto; simp [h]
theorem since_two {ch y : Cg} (h : ch.ix = 1) (k : y.ix = 2) : since (since [ch] 1 ++ [y]) 1 = [y] := by rw [since_one h]; exact since_y k
theorem since_two2 {ch y : Cg} (h : ch.ix = 1) (k : y.ix = 2) : since ([ch] ++ [y]) 1 = [y] := by unfold since upto; simp [h, k]
set_option maxRecDepth 100000 in
set_option maxHeartbeats 8000000 in
theorem ticks_no (c : Cfg) (x : K) (tk : Int) (w : World) (f : Bool) (hc : okc c = false) : Calls Tryz.prog 5 #[c.V, x.V, .int .i64 tk, .bool f] w (Yes w true) := by
  have H := Lib.hid (new2 w c.cells x.cells 24 46)
  have CA := Lib.hid awake_any
  have CN := Lib.hid (fun W => vnew_no c W hc)
  clear hc
  go_enter Tryz.func5, Tryz.ntmps5
  go_upto_region 1 with fail
  obtain ⟨W, hW⟩ : ∃ W, (w.alloc (.cells c.cells 24)).alloc (.cells x.cells 46) = W := ⟨_, rfl⟩
  rw [hW] at H ⊢; clear hW
  go_upto_region 3 with (go_at_call 6; (with_reducible refine (CA.out _).mono ?_); rintro e W1 ⟨rfl, hb1⟩)
  have HC : Hid (CAt W1 w.heap.size c) := Lib.hid (At.step H.out.2.1 hb1)
  have HX : Hid (KAt W1 (w.heap.size + 1) x) := Lib.hid (At.step H.out.2.2 hb1)
  have HB := Lib.hid (H.out.1.trans (hb1.mono H.out.1.size)); clear H CA hb1
  go_wp2_with (first | ((with_reducible apply wpList_load_cat (h := HC.out)); exact rfl; exact rfl; exact rfl) | (go_at_call 7; (with_reducible refine (CN.out _).mono ?_)))
  rintro e v0 ⟨rfl, hb0⟩
  go_wp2_with fail
  go_ret
  exact ⟨rfl, HB.out.trans (hb0.mono HB.out.size)⟩
set_option maxRecDepth 100000 in
set_option maxHeartbeats 8000000 in
theorem ticks_ok_true (c : Cfg) (x : K) (tk : Int) (w : World) (hc : okc c = true) : Calls Tryz.prog 5 #[c.V, x.V, .int .i64 tk, .bool true] w (Yes w true) := by
  have H := Lib.hid (new2 w c.cells x.cells 24 46)
  have CA := Lib.hid awake_any
  have CN := Lib.hid (fun (W : World) (hb : Below w.heap.size w W) => VS.new hc hb)
  clear hc
  obtain ⟨N, hN, hN40⟩ : ∃ N : Nat, wrap64 ((IntKind.u64.wrap tk).tmod 40) = (N : Int) ∧ N < 40 := tick_num tk
  have HN40 := Lib.hid hN40; clear hN40
  go_enter Tryz.func5, Tryz.ntmps5
  go_upto_region 1 with fail
  obtain ⟨W, hW⟩ : ∃ W, (w.alloc (.cells c.cells 24)).alloc (.cells x.cells 46) = W := ⟨_, rfl⟩
  rw [hW] at H ⊢; clear hW
  go_upto_region 3 with (go_at_call 6; (with_reducible refine (CA.out _).mono ?_); rintro e W1 ⟨rfl, hb1⟩)
  have HC : Hid (CAt W1 w.heap.size c) := Lib.hid (At.step H.out.2.1 hb1)
  have HX : Hid (KAt W1 (w.heap.size + 1) x) := Lib.hid (At.step H.out.2.2 hb1)
  have HB := Lib.hid (H.out.1.trans (hb1.mono H.out.1.size)); clear H CA hb1
  go_upto_region 6 with (first | ((with_reducible apply wpList_load_cat (h := HC.out)); exact rfl; exact rfl; exact rfl) | (go_at_call 7; (with_reducible refine (CN.out _ HB.out).mono ?_); rintro e v0 ⟨g, rfl, hv0, hb0⟩))
  have HX0 := Lib.hid (At.step HX.out hb0)
  have HV0 := Lib.hid hv0
  clear CN HC HX HB hv0 hb0
  obtain ⟨x0, hx0⟩ : ∃ x0, newV c = x0 := ⟨_, rfl⟩
  have HXE : Hid (x0.s.b = newB c ∧ x0.s.t = 0 ∧ x0.v = .slice none 0 0 ∧ x0.n = 0 ∧ x0.m = 0) := Lib.hid (by subst hx0; exact ⟨rfl, rfl, rfl, rfl, rfl⟩)
  rw [hx0] at HV0
  clear hx0
  have CR := Lib.hid HV0.out.read
  go_upto_region 7 with (first | (go_at_call 14; (with_reducible refine (CR.out).mono ?_); rintro e v1 ⟨rfl, hb1⟩) | ((with_reducible apply wpList_store_spnew (c := x0.s)); exact rfl; exact rfl; exact rfl; exact rfl))
  have b2 : Below v0.heap.size v0 (v1.alloc (.cells x0.s.cells 44)) := hb1.trans ((below_new v1 _).mono hb1.size)
  have HS : Hid (SpAt (v1.alloc (.cells x0.s.cells 44)) v1.heap.size x0.s) := Lib.hid (At.new _ _ _)
  have HV1 := Lib.hid (HV0.out.step b2)
  have HX1 := Lib.hid (At.step HX0.out b2)
  obtain ⟨W1', hW⟩ : ∃ W1', v1.alloc (.cells x0.s.cells 44) = W1' := ⟨_, rfl⟩
  rw [hW] at HS HV1 HX1 ⊢
  clear hW b2 hb1 CR HV0 HX0
  generalize v1.heap.size = qs at *
  generalize w.heap.size + 1 = qx at *
  have HSR := Lib.hid (Sp.bk (SpAt.rng HS.out))
  obtain ⟨d, ch, e0, hr⟩ : ∃ d ch e0, placeB x0.s.b x 1 0 = (d, ch, e0) := ⟨_, _, _, rfl⟩
  have CC := Lib.hid (by have h := placeBk_any (x := x) (n := 1) (m := 0) HV1.out.at_ HV1.out.made.ok; rw [hr] at h; exact h : Calls Tryz.prog 16 #[x0.s.b.V x0.s.o x0.s.p, x.V, .int .i64 1, .int .i64 0] W1' (B3 W1' (d, ch, e0)))
  have HR0 := Lib.hid hr; clear hr
  go_upto_region 8 with (first | ((with_reducible apply wpList_load_bkm (b := x0.s.b) (s := x0.s.o) (t := x0.s.p) (h := HSR.out)); exact rfl; exact rfl; exact rfl) | ((with_reducible apply wpList_load_kat (h := HX1.out)); exact rfl; exact rfl; exact rfl) | (go_at_call 16; (with_reducible refine (CC.out).mono ?_); rintro e v2 ⟨o1, p1, rfl, ha1, hb2⟩; have HQ : Hid (BkAt ((v2.alloc (.cells Z29 37)).alloc (.cells Z11 48)) v2.heap.size zb none none) := Lib.hid (new2 v2 Z29 Z11 37 48).2.1; have HR : Hid (CgAt (((v2.alloc (.cells Z29 37)).alloc (.cells Z11 48)).setRow v2.heap.size (d.cells o1 p1)) (v2.heap.size + 1) zg) := Lib.hid (At.farRow (new2 v2 Z29 Z11 37 48).2.2 (by omega))) | ((with_reducible apply wpList_store_bk (b := d) (s := o1) (t := p1) (hq := HQ.out)); exact rfl; exact rfl; exact rfl; exact rfl) | ((with_reducible apply wpList_store_cg (c := ch) (hq := HR.out)); exact rfl; exact rfl; exact rfl; exact rfl))
  obtain ⟨bm2, hbk2, hcg2⟩ := made2 v2 d o1 p1 ch
  have hs2 := hb2.trans (bm2.mono hb2.size)
  have HV2 := Lib.hid (HV1.out.step hs2); have HS2 := Lib.hid (HS.out.step hs2)
  have HA2 := Lib.hid (BAt.step ha1 bm2)
  obtain ⟨W2, hW⟩ : ∃ W2, ((((v2.alloc (.cells Z29 37)).alloc (.cells Z11 48)).setRow v2.heap.size (d.cells o1 p1)).setRow (v2.heap.size + 1) ch.cells) = W2 := ⟨_, rfl⟩
  rw [hW] at hbk2 hcg2 HV2 HS2 HA2 ⊢
  clear hW HQ HR CC HSR HS HV1 HX1 ha1 hb2 bm2 hs2
  have HB2 : Hid (BkAt W2 v2.heap.size d o1 p1) := Lib.hid hbk2
  have HC2 : Hid (CgAt W2 (v2.heap.size + 1) ch) := Lib.hid hcg2
  clear hbk2 hcg2
  generalize v2.heap.size + 1 = qc at *
  generalize v2.heap.size = qb at *
  by_cases he : e0 = 0
  · subst he
    have hap : applyB x0.s.b ch = (d, 0) := place_apply HR0.out
    have HAP := Lib.hid hap
    obtain ⟨d2, y, hcx⟩ := cancel_mine (by have h := HR0.out; rw [HXE.out.1] at h; exact h)
    have HCX := Lib.hid hcx
    clear hap hcx HR0
    go_upto_region 11 with fail
    have hch : ch.ix = 1 := by
      have h := (applyB_ok HAP.out).2.1
      rw [HXE.out.1] at h
      rw [h, newB_ix]; rfl
    have HCH := Lib.hid hch; clear hch
    obtain ⟨hx1, hx2, hx3, hx4, hx5⟩ := HXE.out
    have HN0 := Lib.hid hx4; have HM0 := Lib.hid hx5; have HT0 := Lib.hid hx2; have HVN := Lib.hid hx3
    clear hx1 hx2 hx3 hx4 hx5 HXE
    have HV3 : Hid (VS c w W2 g (x0.upTo ((0 : Nat) : Int)) [] []) := Lib.hid (by have h := HV2.out; have e : x0.upTo ((0 : Nat) : Int) = x0 := (by have h2 := HT0.out; unfold Vt.upTo; rw [show ((0 : Nat) : Int) = x0.s.t from h2.symm]); rw [e]; exact h)
    clear HV2
    rw [hN]
    clear hN
    go_wp2_with fail
    go_loopg [15] N (fun gh s15 wx => ∃ i : Nat, i ≤ N ∧ gh = N - i ∧ s15 = .int .i64 (i : Int) ∧ VS c w wx g (x0.upTo (i : Int)) [] [] ∧ SpAt wx qs x0.s ∧ BkAt wx qb d o1 p1 ∧ BAt wx d o1 p1 ∧ CgAt wx qc ch)
    case atStart => exact ⟨0, Nat.zero_le _, rfl, rfl, HV3.out, HS2.out, HB2.out, HA2.out, HC2.out⟩
    case round =>
      clear HV3 HS2 HB2 HA2 HC2
      obtain ⟨i, hi, hg, rfl, hv, hs, hb, ha, hcc⟩ := hrel
      have HG := Lib.hid hg; have HV := Lib.hid hv; have HS := Lib.hid hs; have HB := Lib.hid hb; have HA := Lib.hid ha; have HC := Lib.hid hcc
      clear hg hv hs hb ha hcc
      by_cases hlt : i < N
      · have b3 : (i : Int) < (N : Int) := by omega
        have HLT := Lib.hid hlt
        have CT := Lib.hid (HV.out.tick (show (0 : Int) ≤ (i : Int) by omega) (show (i : Int) < 1000 by have := HN40.out; omega))
        clear hlt hi
        go_wp2_with (go_at_call 10; (with_reducible refine CT.out.mono ?_); rintro e w4 ⟨rfl, hv4, hc4⟩)
        have HV4 : Hid (VS c w w4 g (x0.upTo ((i + 1 : Nat) : Int)) [] []) := Lib.hid hv4
        have HS4 := Lib.hid (HV.out.far hc4 HS.out (by decide) (by decide))
        have HB4 := Lib.hid (HV.out.far hc4 HB.out (by decide) (by decide))
        have HA4 := Lib.hid (HV.out.farB hc4 HA.out)
        have HC4 : Hid (CgAt w4 qc ch) := Lib.hid (HV.out.farC hc4 HC.out (by show x0.v.ownBlock ≠ some qc; rw [HVN.out]; intro h; cases h))
        clear hv4 hc4 CT HV HS HB HA HC
        go_roundg (N - (i + 1))
        case measure => have := HG.out; have := HLT.out; omega
        case rel => exact ⟨i + 1, by have := HLT.out; omega, rfl, (by have h1 := HN40.out; have h2 := HLT.out; rw [IntWalk.wrap64_in _ (by omega)]; rfl), HV4.out, HS4.out, HB4.out, HA4.out, HC4.out⟩
      · obtain rfl : i = N := by omega
        clear hlt hi HG
        have b3 : ¬ (i : Int) < (i : Int) := by omega
        have HSR := Lib.hid (SpAt.rng HS.out)
        have HKR : Hid (wr.rangeAt qs 29 x0.s.k.cs.toList) := Lib.hid (by have h := Sp.ky (SpAt.rng HS.out); rwa [Nat.zero_add] at h)
        have CC := Lib.hid (HV.out.commit (s := x0.s) (k := x0.s.k) rfl (by have h := HN0.out; show 0 ≤ x0.n ∧ x0.n < 1000; omega) (by decide) HA.out HAP.out)
        go_upto_region 18 with (first | ((with_reducible apply wpList_load_spm (c := x0.s) (h := HSR.out)); exact rfl; exact rfl; exact rfl) | ((with_reducible apply wpList_load_bk (h := HB.out)); exact rfl; exact rfl; exact rfl) | ((with_reducible apply wpList_load_cg (h := HC.out)); exact rfl; exact rfl; exact rfl) | ((with_reducible apply wpList_load_ykm (c := x0.s.k) (h := HKR.out)); exact rfl; exact rfl; exact rfl) | (go_at_call 13; (with_reducible refine (CK.out).mono ?_); rintro e W5 ⟨rfl, hb5⟩; have HV4 := Lib.hid (HV3.out.step hb5)) | (go_at_call 14; (with_reducible refine (CR.out).mono ?_); rintro e W4 ⟨rfl, hb4⟩; have HV3 := Lib.hid (HV2.out.step hb4); have CK : Hid (Calls Tryz.prog 13 #[ptr g 0] W4 fun e w' => e = .returned (.int .i64 1) ∧ Below W4.heap.size W4 w') := Lib.hid HV3.out.kept) | ((with_reducible apply wpList_field_now (s := ⟨d, o1, p1, x0.s.k, (i : Int)⟩)); exact rfl; exact rfl; exact rfl) | (go_at_call 9; (with_reducible refine (CC.out).mono ?_); rintro e W3 ⟨rfl, v3, hv3, hc3, hl3⟩; have HV2 : Hid (VS c w W3 g ⟨⟨d, o1, p1, x0.s.k, (i : Int)⟩, v3, x0.n + 1, x0.m⟩ [ch] [ch]) := Lib.hid hv3; have CR := Lib.hid HV2.out.read))
        clear hv3 hc3 hl3 hb4 hb5 HV2 HV3 CC CR CK HSR HKR HV HS HB HA HC
        have CF : Hid (Calls Tryz.prog 12 #[ptr g 0, .int .i64 1] W5 fun e w' => e = .returned (.int .i64 1) ∧ ∃ v', VS c w w' g ⟨⟨d, o1, p1, x0.s.k, (i : Int)⟩, v', x0.n + 1, x0.m⟩ [ch] (since [ch] 1)) := Lib.hid ((HV4.out.forget (by show (1 : Nat) ≤ 200; decide) 1).mono (fun e w' h => by obtain ⟨rfl, v', h1, _, _⟩ := h; rw [upto_one HCH.out]; exact ⟨rfl, v', h1⟩))
        go_upto_region 20 with (go_at_call 12; (with_reducible refine (CF.out).mono ?_); rintro e W6 ⟨rfl, v4, hv5⟩)
        have HV5 := Lib.hid hv5
        clear hv5 HV4 CF
        obtain ⟨s2, hs2⟩ : ∃ s2 : Sp, (⟨d, o1, p1, x0.s.k, (i : Int)⟩ : Sp) = s2 := ⟨_, rfl⟩
        rw [hs2] at HV5
        have HDE : Hid (s2.b = d) := Lib.hid (by rw [← hs2])
        clear hs2
        have CR := Lib.hid HV5.out.read
        go_upto_region 21 with (first | (go_at_call 14; (with_reducible refine (CR.out).mono ?_); rintro e v6 ⟨rfl, hb6⟩) | ((with_reducible apply wpList_store_spnew (c := s2)); exact rfl; exact rfl; exact rfl; exact rfl))
        have b6 : Below W6.heap.size W6 (v6.alloc (.cells s2.cells 44)) := hb6.trans ((below_new v6 _).mono hb6.size)
        have HS : Hid (SpAt (v6.alloc (.cells s2.cells 44)) v6.heap.size s2) := Lib.hid (At.new _ _ _)
        have HV6 := Lib.hid (HV5.out.step b6)
        obtain ⟨W7, hW⟩ : ∃ W7, v6.alloc (.cells s2.cells 44) = W7 := ⟨_, rfl⟩
        rw [hW] at HS HV6 ⊢
        clear hW b6 hb6 CR HV5
        generalize v6.heap.size = q16 at *
        have HSR := Lib.hid (Sp.bk (SpAt.rng HS.out))
        have CC := Lib.hid (by have h := cancelBk_any 1 1 HV6.out.at_ HV6.out.made.ok; rw [HDE.out, HCX.out] at h; rw [HDE.out]; exact h : Calls Tryz.prog 17 #[s2.b.V s2.o s2.p, .int .i64 1, .int .i64 1] W7 (B3 W7 (d2, y, 0)))
        go_upto_region 22 with (first | ((with_reducible apply wpList_load_bkm (b := s2.b) (s := s2.o) (t := s2.p) (h := HSR.out)); exact rfl; exact rfl; exact rfl) | (go_at_call 17; (with_reducible refine (CC.out).mono ?_); rintro e v8 ⟨o3, p3, rfl, ha3, hb8⟩; have HQ : Hid (BkAt ((v8.alloc (.cells Z29 37)).alloc (.cells Z11 48)) v8.heap.size zb none none) := Lib.hid (new2 v8 Z29 Z11 37 48).2.1; have HR : Hid (CgAt (((v8.alloc (.cells Z29 37)).alloc (.cells Z11 48)).setRow v8.heap.size (d2.cells o3 p3)) (v8.heap.size + 1) zg) := Lib.hid (At.farRow (new2 v8 Z29 Z11 37 48).2.2 (by omega))) | ((with_reducible apply wpList_store_bk (b := d2) (s := o3) (t := p3) (hq := HQ.out)); exact rfl; exact rfl; exact rfl; exact rfl) | ((with_reducible apply wpList_store_cg (c := y) (hq := HR.out)); exact rfl; exact rfl; exact rfl; exact rfl))
        obtain ⟨bm8, hbk8, hcg8⟩ := made2 v8 d2 o3 p3 y
        have hs8 := hb8.trans (bm8.mono hb8.size)
        have HV8 := Lib.hid (HV6.out.step hs8); have HS8 := Lib.hid (HS.out.step hs8)
        have HA8 := Lib.hid (BAt.step ha3 bm8)
        have HNE : Hid (v4.ownBlock ≠ some (v8.heap.size + 1)) := Lib.hid (fun e => by have h1 := (HV6.out.ow.lt e).2; have h2 := hb8.size; omega)
        obtain ⟨W8, hW⟩ : ∃ W8, ((((v8.alloc (.cells Z29 37)).alloc (.cells Z11 48)).setRow v8.heap.size (d2.cells o3 p3)).setRow (v8.heap.size + 1) y.cells) = W8 := ⟨_, rfl⟩
        rw [hW] at hbk8 hcg8 HV8 HS8 HA8 ⊢
        clear hW HQ HR CC HSR HS HV6 ha3 hb8 bm8 hs8
        have HB8 : Hid (BkAt W8 v8.heap.size d2 o3 p3) := Lib.hid hbk8
        have HC8 : Hid (CgAt W8 (v8.heap.size + 1) y) := Lib.hid hcg8
        clear hbk8 hcg8
        generalize v8.heap.size + 1 = q18 at *
        generalize v8.heap.size = q17 at *
        have hap2 : applyB s2.b y = (d2, 0) := HV8.out.made.cancel (by rw [HDE.out]; exact HCX.out)
        have HAP2 := Lib.hid hap2
        have hyx : y.ix = 2 := by
          have h := (applyB_ok hap2).2.1
          rw [HV8.out.made.len] at h
          exact h
        have HYX := Lib.hid hyx
        clear hap2 hyx
        have HSR := Lib.hid (SpAt.rng HS8.out)
        have HKR : Hid (W8.rangeAt q16 29 s2.k.cs.toList) := Lib.hid (by have h := Sp.ky (SpAt.rng HS8.out); rwa [Nat.zero_add] at h)
        have CC := Lib.hid (HV8.out.commit (s := s2) (k := s2.k) rfl (by have h := HN0.out; show 0 ≤ x0.n + 1 ∧ x0.n + 1 < 1000; omega) (by show (1 : Nat) < 200; decide) HA8.out HAP2.out)
        go_upto_region 23 with (first | ((with_reducible apply wpList_load_spm (c := s2) (h := HSR.out)); exact rfl; exact rfl; exact rfl) | ((with_reducible apply wpList_load_bk (h := HB8.out)); exact rfl; exact rfl; exact rfl) | ((with_reducible apply wpList_load_cg (h := HC8.out)); exact rfl; exact rfl; exact rfl) | ((with_reducible apply wpList_load_ykm (c := s2.k) (h := HKR.out)); exact rfl; exact rfl; exact rfl) | (go_at_call 9; (with_reducible refine (CC.out).mono ?_); rintro e W9 ⟨rfl, v9, hv9, hc9, hl9⟩))
        have HV9 : Hid (VS c w W9 g ⟨⟨d2, o3, p3, s2.k, s2.t⟩, v9, x0.n + 1 + 1, x0.m⟩ [ch, y] ((since [ch] 1) ++ [y])) := Lib.hid hv9
        have HS9 := Lib.hid (HV8.out.far hc9 HS8.out (by decide) (by decide))
        have HB9 := Lib.hid (HV8.out.far hc9 HB8.out (by decide) (by decide))
        have HC9 : Hid (CgAt W9 q18 y) := Lib.hid (HV8.out.farC hc9 HC8.out HNE.out)
        have HNE9 : Hid (v9.ownBlock ≠ some q18) := Lib.hid (fun e => HNE.out (hl9.old e HC8.out.lt))
        clear hv9 hc9 hl9 CC HSR HKR HV8 HS8 HB8 HC8 HA8 HNE
        have HSR := Lib.hid (SpAt.rng HS9.out)
        have HKR : Hid (W9.rangeAt q16 29 s2.k.cs.toList) := Lib.hid (by have h := Sp.ky (SpAt.rng HS9.out); rwa [Nat.zero_add] at h)
        have hst : s2.b.ix ≠ d2.ix := by
          have h := HV9.out.made.len
          have h1 : d2.ix = 2 := h
          have h2 := (applyB_ok HAP2.out).2.1
          rw [HYX.out] at h2
          omega
        have CC := Lib.hid (HV9.out.stale (s := s2) (b := d2) (o := o3) (p := p3) (ch := y) (k := s2.k) hst (by have h := HN0.out; show 0 ≤ x0.n + 1 + 1 ∧ x0.n + 1 + 1 < 1000; omega) (by have h := HM0.out; show 0 ≤ x0.m ∧ x0.m < 1000; omega))
        clear hst
        go_upto_region 24 with (first | ((with_reducible apply wpList_load_spm (c := s2) (h := HSR.out)); exact rfl; exact rfl; exact rfl) | ((with_reducible apply wpList_load_bk (h := HB9.out)); exact rfl; exact rfl; exact rfl) | ((with_reducible apply wpList_load_cg (h := HC9.out)); exact rfl; exact rfl; exact rfl) | ((with_reducible apply wpList_load_ykm (c := s2.k) (h := HKR.out)); exact rfl; exact rfl; exact rfl) | (go_at_call 9; (with_reducible refine (CC.out).mono ?_); rintro e W10 ⟨rfl, hv10, hc10⟩))
        have HC10 : Hid (CgAt W10 q18 y) := Lib.hid (HV9.out.farC hc10 HC9.out HNE9.out)
        have HV10 := Lib.hid hv10
        clear hv10 hc10 CC HSR HKR HV9 HS9 HB9 HC9 HNE9
        have CS : Hid (Calls Tryz.prog 11 #[ptr g 0, .int .i64 1] W10 fun e w' => ∃ b1 off1 cp, e = .returned (.slice (some ⟨b1, off1, none⟩) 1 cp) ∧ b1 < w'.heap.size ∧ w'.rangeAt b1 off1 y.cells.toList ∧ Below W10.heap.size W10 w') := Lib.hid ((HV10.out.since (by show (2 : Nat) ≤ 200; decide) 1).mono (fun e w' h => by
          obtain ⟨v', rfl, h1, h2⟩ := h
          rw [show since ((since [ch] 1) ++ [y]) 1 = [y] from since_two HCH.out HYX.out] at h1
          obtain ⟨O, cp, rfl, _, h3⟩ := h1.rd
          obtain ⟨b1, off1, rfl, h4, h5⟩ := h3 0 y rfl
          exact ⟨b1, off1, cp, rfl, h4, fun j u hu => by have := h5 j u hu; rwa [Nat.zero_mul, Nat.add_zero] at this, h2⟩))
        go_upto_region 25 with (go_at_call 11; (with_reducible refine (CS.out).mono ?_); rintro e W11 ⟨b1, off1, cp, rfl, l1, k1, hb11⟩)
        have HB11 := Lib.hid (HV10.out.bel.trans (hb11.mono HV10.out.bel.size))
        have HC11 := Lib.hid (HC10.out.step hb11)
        have KR := Lib.hid k1; have L1 := Lib.hid l1
        have HYB := Lib.hid (Cg.beq_self y)
        clear k1 l1 hb11 CS HC10 HV10
        refine AnyOrder.region_kinds2 22 [.eq (.int .i64 0), .eq (.bool true), .eq (.bool true), .eq (.int .i64 0), .eq (.bool true), .eq (.bool true), .eq (.bool true), .eq (.int .i64 9), .eq (.bool true), .eq (.bool true), .eq (.bool true), .eq (.slice (some ⟨b1, off1, none⟩) 1 cp), .eq (.int .i64 1), .eq (.bool true), .eq (.bool true), .eq (.bool true), .eq (.slice (some ⟨b1, off1, none⟩) 1 cp), .eq (ptr b1 off1), .eq (y.V), .eq (y.V), .eq (.bool true), .eq (.bool true)] (fun wx => Below W11.heap.size W11 wx) (by kernel_rfl) (by kernel_rfl) rfl (by kernel_rfl) (below_drewN (Below.refl _ _) 1) (fun p _ _ hp => by simp at hp) ?_ ?_
        · intro i o listed a1 w2 hin ho st hl hdep
          match i, ho with
          | 0, ho => (injection ho with ho; subst ho; have ec : ∀ v, a1.eval (.const v) = v := fun _ => rfl; have ef : ∀ f, a1.eval (.func f) = .func (.func f) #[] #[] := fun _ => rfl; have e0 : a1.eval (.tmp 19) = .int .i64 0 := st.old hl 19 (by kernel_rfl); exact AnyOrder.step_value rfl (AnyOrder.wanted_none rfl) (.int .i64 0) (AnyOrder.run_move e0) st.inv (Below.refl _ _) rfl)
          | 1, ho => (injection ho with ho; subst ho; have ec : ∀ v, a1.eval (.const v) = v := fun _ => rfl; have ef : ∀ f, a1.eval (.func f) = .func (.func f) #[] #[] := fun _ => rfl; have e0 : a1.eval (.tmp 104) = .int .i64 0 := st.done 0 104 (hdep ⟨0, .data⟩ (by simp) rfl) rfl; exact AnyOrder.step_value rfl (AnyOrder.wanted_none rfl) (.bool true) (by generalize a1.eval = ρ at ec ef e0 ⊢; simp [execOp, ec, ef, e0, IntWalk.i64_left, go_sem]) st.inv (Below.refl _ _) rfl)
          | 2, ho => (injection ho with ho; subst ho; have ec : ∀ v, a1.eval (.const v) = v := fun _ => rfl; have ef : ∀ f, a1.eval (.func f) = .func (.func f) #[] #[] := fun _ => rfl; have e0 : a1.eval (.tmp 105) = .bool true := st.done 1 105 (hdep ⟨1, .data⟩ (by simp) rfl) rfl; exact AnyOrder.step_value rfl (AnyOrder.wanted_none rfl) (.bool true) (AnyOrder.run_move e0) st.inv (Below.refl _ _) rfl)
          | 3, ho => (injection ho with ho; subst ho; have ec : ∀ v, a1.eval (.const v) = v := fun _ => rfl; have ef : ∀ f, a1.eval (.func f) = .func (.func f) #[] #[] := fun _ => rfl; have e0 : a1.eval (.tmp 20) = .int .i64 0 := st.old hl 20 (by kernel_rfl); have eg : a1.eval (.tmp 106) = .bool true := st.done 2 106 (hdep ⟨2, .guard⟩ (by simp) rfl) rfl; exact AnyOrder.step_value rfl ((AnyOrder.wanted_of rfl rfl eg).trans rfl) (.int .i64 0) (AnyOrder.run_move e0) st.inv (Below.refl _ _) rfl)
          | 4, ho => (injection ho with ho; subst ho; have ec : ∀ v, a1.eval (.const v) = v := fun _ => rfl; have ef : ∀ f, a1.eval (.func f) = .func (.func f) #[] #[] := fun _ => rfl; have e0 : a1.eval (.tmp 107) = .int .i64 0 := st.done 3 107 (hdep ⟨3, .data⟩ (by simp) rfl) rfl; have eg : a1.eval (.tmp 106) = .bool true := st.done 2 106 (hdep ⟨2, .guard⟩ (by simp) rfl) rfl; exact AnyOrder.step_value rfl ((AnyOrder.wanted_of rfl rfl eg).trans rfl) (.bool true) (by generalize a1.eval = ρ at ec ef e0 ⊢; simp [execOp, ec, ef, e0, IntWalk.i64_left, go_sem]) st.inv (Below.refl _ _) rfl)
          | 5, ho => (injection ho with ho; subst ho; have ec : ∀ v, a1.eval (.const v) = v := fun _ => rfl; have ef : ∀ f, a1.eval (.func f) = .func (.func f) #[] #[] := fun _ => rfl; have e0 : a1.eval (.tmp 106) = .bool true := st.done 2 106 (hdep ⟨2, .data⟩ (by simp) rfl) rfl; have e1 : a1.eval (.tmp 108) = .bool true := st.done 4 108 (hdep ⟨4, .data⟩ (by simp) rfl) rfl; exact AnyOrder.step_value rfl (AnyOrder.wanted_none rfl) (.bool true) (by generalize a1.eval = ρ at ec ef e0 e1 ⊢; simp [execOp, ec, ef, e0, e1, IntWalk.i64_left, go_sem]) st.inv (Below.refl _ _) rfl)
          | 6, ho => (injection ho with ho; subst ho; have ec : ∀ v, a1.eval (.const v) = v := fun _ => rfl; have ef : ∀ f, a1.eval (.func f) = .func (.func f) #[] #[] := fun _ => rfl; have e0 : a1.eval (.tmp 109) = .bool true := st.done 5 109 (hdep ⟨5, .data⟩ (by simp) rfl) rfl; exact AnyOrder.step_value rfl (AnyOrder.wanted_none rfl) (.bool true) (AnyOrder.run_move e0) st.inv (Below.refl _ _) rfl)
          | 7, ho => (injection ho with ho; subst ho; have ec : ∀ v, a1.eval (.const v) = v := fun _ => rfl; have ef : ∀ f, a1.eval (.func f) = .func (.func f) #[] #[] := fun _ => rfl; have e0 : a1.eval (.tmp 21) = .int .i64 9 := st.old hl 21 (by kernel_rfl); have eg : a1.eval (.tmp 110) = .bool true := st.done 6 110 (hdep ⟨6, .guard⟩ (by simp) rfl) rfl; exact AnyOrder.step_value rfl ((AnyOrder.wanted_of rfl rfl eg).trans rfl) (.int .i64 9) (AnyOrder.run_move e0) st.inv (Below.refl _ _) rfl)
          | 8, ho => (injection ho with ho; subst ho; have ec : ∀ v, a1.eval (.const v) = v := fun _ => rfl; have ef : ∀ f, a1.eval (.func f) = .func (.func f) #[] #[] := fun _ => rfl; have e0 : a1.eval (.tmp 111) = .int .i64 9 := st.done 7 111 (hdep ⟨7, .data⟩ (by simp) rfl) rfl; have eg : a1.eval (.tmp 110) = .bool true := st.done 6 110 (hdep ⟨6, .guard⟩ (by simp) rfl) rfl; exact AnyOrder.step_value rfl ((AnyOrder.wanted_of rfl rfl eg).trans rfl) (.bool true) (by generalize a1.eval = ρ at ec ef e0 ⊢; simp [execOp, ec, ef, e0, IntWalk.i64_left, go_sem]) st.inv (Below.refl _ _) rfl)
          | 9, ho => (injection ho with ho; subst ho; have ec : ∀ v, a1.eval (.const v) = v := fun _ => rfl; have ef : ∀ f, a1.eval (.func f) = .func (.func f) #[] #[] := fun _ => rfl; have e0 : a1.eval (.tmp 110) = .bool true := st.done 6 110 (hdep ⟨6, .data⟩ (by simp) rfl) rfl; have e1 : a1.eval (.tmp 112) = .bool true := st.done 8 112 (hdep ⟨8, .data⟩ (by simp) rfl) rfl; exact AnyOrder.step_value rfl (AnyOrder.wanted_none rfl) (.bool true) (by generalize a1.eval = ρ at ec ef e0 e1 ⊢; simp [execOp, ec, ef, e0, e1, IntWalk.i64_left, go_sem]) st.inv (Below.refl _ _) rfl)
          | 10, ho => (injection ho with ho; subst ho; have ec : ∀ v, a1.eval (.const v) = v := fun _ => rfl; have ef : ∀ f, a1.eval (.func f) = .func (.func f) #[] #[] := fun _ => rfl; have e0 : a1.eval (.tmp 113) = .bool true := st.done 9 113 (hdep ⟨9, .data⟩ (by simp) rfl) rfl; exact AnyOrder.step_value rfl (AnyOrder.wanted_none rfl) (.bool true) (AnyOrder.run_move e0) st.inv (Below.refl _ _) rfl)
          | 11, ho => (injection ho with ho; subst ho; have ec : ∀ v, a1.eval (.const v) = v := fun _ => rfl; have ef : ∀ f, a1.eval (.func f) = .func (.func f) #[] #[] := fun _ => rfl; have e0 : a1.eval (.tmp 22) = .slice (some ⟨b1, off1, none⟩) 1 cp := st.old hl 22 (by kernel_rfl); have eg : a1.eval (.tmp 114) = .bool true := st.done 10 114 (hdep ⟨10, .guard⟩ (by simp) rfl) rfl; exact AnyOrder.step_value rfl ((AnyOrder.wanted_of rfl rfl eg).trans rfl) (.slice (some ⟨b1, off1, none⟩) 1 cp) (AnyOrder.run_move e0) st.inv (Below.refl _ _) rfl)
          | 12, ho => (injection ho with ho; subst ho; have ec : ∀ v, a1.eval (.const v) = v := fun _ => rfl; have ef : ∀ f, a1.eval (.func f) = .func (.func f) #[] #[] := fun _ => rfl; have e0 : a1.eval (.tmp 115) = .slice (some ⟨b1, off1, none⟩) 1 cp := st.done 11 115 (hdep ⟨11, .data⟩ (by simp) rfl) rfl; have eg : a1.eval (.tmp 114) = .bool true := st.done 10 114 (hdep ⟨10, .guard⟩ (by simp) rfl) rfl; exact AnyOrder.step_value rfl ((AnyOrder.wanted_of rfl rfl eg).trans rfl) (.int .i64 1) (by generalize a1.eval = ρ at ec ef e0 ⊢; simp [execOp, ec, ef, e0, IntWalk.i64_left, go_sem]) st.inv (Below.refl _ _) rfl)
          | 13, ho => (injection ho with ho; subst ho; have ec : ∀ v, a1.eval (.const v) = v := fun _ => rfl; have ef : ∀ f, a1.eval (.func f) = .func (.func f) #[] #[] := fun _ => rfl; have e0 : a1.eval (.tmp 116) = .int .i64 1 := st.done 12 116 (hdep ⟨12, .data⟩ (by simp) rfl) rfl; have eg : a1.eval (.tmp 114) = .bool true := st.done 10 114 (hdep ⟨10, .guard⟩ (by simp) rfl) rfl; exact AnyOrder.step_value rfl ((AnyOrder.wanted_of rfl rfl eg).trans rfl) (.bool true) (by generalize a1.eval = ρ at ec ef e0 ⊢; simp [execOp, ec, ef, e0, IntWalk.i64_left, go_sem]) st.inv (Below.refl _ _) rfl)
          | 14, ho => (injection ho with ho; subst ho; have ec : ∀ v, a1.eval (.const v) = v := fun _ => rfl; have ef : ∀ f, a1.eval (.func f) = .func (.func f) #[] #[] := fun _ => rfl; have e0 : a1.eval (.tmp 114) = .bool true := st.done 10 114 (hdep ⟨10, .data⟩ (by simp) rfl) rfl; have e1 : a1.eval (.tmp 117) = .bool true := st.done 13 117 (hdep ⟨13, .data⟩ (by simp) rfl) rfl; exact AnyOrder.step_value rfl (AnyOrder.wanted_none rfl) (.bool true) (by generalize a1.eval = ρ at ec ef e0 e1 ⊢; simp [execOp, ec, ef, e0, e1, IntWalk.i64_left, go_sem]) st.inv (Below.refl _ _) rfl)
          | 15, ho => (injection ho with ho; subst ho; have ec : ∀ v, a1.eval (.const v) = v := fun _ => rfl; have ef : ∀ f, a1.eval (.func f) = .func (.func f) #[] #[] := fun _ => rfl; have e0 : a1.eval (.tmp 118) = .bool true := st.done 14 118 (hdep ⟨14, .data⟩ (by simp) rfl) rfl; exact AnyOrder.step_value rfl (AnyOrder.wanted_none rfl) (.bool true) (AnyOrder.run_move e0) st.inv (Below.refl _ _) rfl)
          | 16, ho => (injection ho with ho; subst ho; have ec : ∀ v, a1.eval (.const v) = v := fun _ => rfl; have ef : ∀ f, a1.eval (.func f) = .func (.func f) #[] #[] := fun _ => rfl; have e0 : a1.eval (.tmp 22) = .slice (some ⟨b1, off1, none⟩) 1 cp := st.old hl 22 (by kernel_rfl); have eg : a1.eval (.tmp 119) = .bool true := st.done 15 119 (hdep ⟨15, .guard⟩ (by simp) rfl) rfl; exact AnyOrder.step_value rfl ((AnyOrder.wanted_of rfl rfl eg).trans rfl) (.slice (some ⟨b1, off1, none⟩) 1 cp) (AnyOrder.run_move e0) st.inv (Below.refl _ _) rfl)
          | 17, ho => (injection ho with ho; subst ho; have ec : ∀ v, a1.eval (.const v) = v := fun _ => rfl; have ef : ∀ f, a1.eval (.func f) = .func (.func f) #[] #[] := fun _ => rfl; have e0 : a1.eval (.tmp 120) = .slice (some ⟨b1, off1, none⟩) 1 cp := st.done 16 120 (hdep ⟨16, .data⟩ (by simp) rfl) rfl; have eg : a1.eval (.tmp 119) = .bool true := st.done 15 119 (hdep ⟨15, .guard⟩ (by simp) rfl) rfl; exact AnyOrder.step_value rfl ((AnyOrder.wanted_of rfl rfl eg).trans rfl) (ptr b1 off1) (by generalize a1.eval = ρ at ec ef e0 ⊢; simp [execOp, ec, ef, e0, IntWalk.i64_left, go_sem]) st.inv (Below.refl _ _) rfl)
          | 18, ho => (injection ho with ho; subst ho; have ec : ∀ v, a1.eval (.const v) = v := fun _ => rfl; have ef : ∀ f, a1.eval (.func f) = .func (.func f) #[] #[] := fun _ => rfl; have e0 : a1.eval (.tmp 121) = ptr b1 off1 := st.done 17 121 (hdep ⟨17, .data⟩ (by simp) rfl) rfl; have eg : a1.eval (.tmp 119) = .bool true := st.done 15 119 (hdep ⟨15, .guard⟩ (by simp) rfl) rfl; exact AnyOrder.step_value rfl ((AnyOrder.wanted_of rfl rfl eg).trans rfl) (y.V) (run_load_cgr e0 (rng_below KR.out L1.out st.inv)) st.inv (Below.refl _ _) rfl)
          | 19, ho => (injection ho with ho; subst ho; have ec : ∀ v, a1.eval (.const v) = v := fun _ => rfl; have ef : ∀ f, a1.eval (.func f) = .func (.func f) #[] #[] := fun _ => rfl; have e0 : a1.eval (.tmp 18) = ptr q18 0 := st.old hl 18 (by kernel_rfl); have eg : a1.eval (.tmp 119) = .bool true := st.done 15 119 (hdep ⟨15, .guard⟩ (by simp) rfl) rfl; exact AnyOrder.step_value rfl ((AnyOrder.wanted_of rfl rfl eg).trans rfl) (y.V) (run_load_cg e0 (At.step HC11.out st.inv)) st.inv (Below.refl _ _) rfl)
          | 20, ho => (injection ho with ho; subst ho; have ec : ∀ v, a1.eval (.const v) = v := fun _ => rfl; have ef : ∀ f, a1.eval (.func f) = .func (.func f) #[] #[] := fun _ => rfl; have e0 : a1.eval (.tmp 122) = y.V := st.done 18 122 (hdep ⟨18, .data⟩ (by simp) rfl) rfl; have e1 : a1.eval (.tmp 123) = y.V := st.done 19 123 (hdep ⟨19, .data⟩ (by simp) rfl) rfl; have eg : a1.eval (.tmp 119) = .bool true := st.done 15 119 (hdep ⟨15, .guard⟩ (by simp) rfl) rfl; exact AnyOrder.step_value rfl ((AnyOrder.wanted_of rfl rfl eg).trans rfl) (.bool true) (run_eql39_self e0 e1) st.inv (Below.refl _ _) rfl)
          | 21, ho => (injection ho with ho; subst ho; have ec : ∀ v, a1.eval (.const v) = v := fun _ => rfl; have ef : ∀ f, a1.eval (.func f) = .func (.func f) #[] #[] := fun _ => rfl; have e0 : a1.eval (.tmp 119) = .bool true := st.done 15 119 (hdep ⟨15, .data⟩ (by simp) rfl) rfl; have e1 : a1.eval (.tmp 124) = .bool true := st.done 20 124 (hdep ⟨20, .data⟩ (by simp) rfl) rfl; exact AnyOrder.step_value rfl (AnyOrder.wanted_none rfl) (.bool true) (by generalize a1.eval = ρ at ec ef e0 e1 ⊢; simp [execOp, ec, ef, e0, e1, IntWalk.i64_left, go_sem]) st.inv (Below.refl _ _) rfl)
          | n + 22, ho => exact absurd hin (by omega)
        · intro wz hJz
          simp only [AnyOrder.finK, List.take_succ_cons, List.take_zero, List.drop_succ_cons, List.drop_zero, Act.put, List.setIfInBounds_toArray, List.set_cons_zero, List.set_cons_succ]
          go_wp2_with fail
          go_ret
          exact ⟨rfl, HB11.out.trans (hJz.mono HB11.out.size)⟩
  · have hne : (e0 != 0) = true := by simpa using he
    have HF := Lib.hid HV2.out.bel
    clear HR0 he HV2 HS2 HA2 HB2 HC2
    go_wp2_with fail
    go_ret
    exact ⟨rfl, HF.out⟩
set_option maxRecDepth 100000 in
set_option maxHeartbeats 8000000 in
theorem ticks_ok_false (c : Cfg) (x : K) (tk : Int) (w : World) (hc : okc c = true) : Calls Tryz.prog 5 #[c.V, x.V, .int .i64 tk, .bool false] w (Yes w true) := by
  have H := Lib.hid (new2 w c.cells x.cells 24 46)
  have CA := Lib.hid awake_any
  have CN := Lib.hid (fun (W : World) (hb : Below w.heap.size w W) => VS.new hc hb)
  clear hc
  obtain ⟨N, hN, hN40⟩ : ∃ N : Nat, wrap64 ((IntKind.u64.wrap tk).tmod 40) = (N : Int) ∧ N < 40 := tick_num tk
  have HN40 := Lib.hid hN40; clear hN40
  go_enter Tryz.func5, Tryz.ntmps5
  go_upto_region 1 with fail
  obtain ⟨W, hW⟩ : ∃ W, (w.alloc (.cells c.cells 24)).alloc (.cells x.cells 46) = W := ⟨_, rfl⟩
  rw [hW] at H ⊢; clear hW
  go_upto_region 3 with (go_at_call 6; (with_reducible refine (CA.out _).mono ?_); rintro e W1 ⟨rfl, hb1⟩)
  have HC : Hid (CAt W1 w.heap.size c) := Lib.hid (At.step H.out.2.1 hb1)
  have HX : Hid (KAt W1 (w.heap.size + 1) x) := Lib.hid (At.step H.out.2.2 hb1)
  have HB := Lib.hid (H.out.1.trans (hb1.mono H.out.1.size)); clear H CA hb1
  go_upto_region 6 with (first | ((with_reducible apply wpList_load_cat (h := HC.out)); exact rfl; exact rfl; exact rfl) | (go_at_call 7; (with_reducible refine (CN.out _ HB.out).mono ?_); rintro e v0 ⟨g, rfl, hv0, hb0⟩))
  have HX0 := Lib.hid (At.step HX.out hb0)
  have HV0 := Lib.hid hv0
  clear CN HC HX HB hv0 hb0
  obtain ⟨x0, hx0⟩ : ∃ x0, newV c = x0 := ⟨_, rfl⟩
  have HXE : Hid (x0.s.b = newB c ∧ x0.s.t = 0 ∧ x0.v = .slice none 0 0 ∧ x0.n = 0 ∧ x0.m = 0) := Lib.hid (by subst hx0; exact ⟨rfl, rfl, rfl, rfl, rfl⟩)
  rw [hx0] at HV0
  clear hx0
  have CR := Lib.hid HV0.out.read
  go_upto_region 7 with (first | (go_at_call 14; (with_reducible refine (CR.out).mono ?_); rintro e v1 ⟨rfl, hb1⟩) | ((with_reducible apply wpList_store_spnew (c := x0.s)); exact rfl; exact rfl; exact rfl; exact rfl))
  have b2 : Below v0.heap.size v0 (v1.alloc (.cells x0.s.cells 44)) := hb1.trans ((below_new v1 _).mono hb1.size)
  have HS : Hid (SpAt (v1.alloc (.cells x0.s.cells 44)) v1.heap.size x0.s) := Lib.hid (At.new _ _ _)
  have HV1 := Lib.hid (HV0.out.step b2)
  have HX1 := Lib.hid (At.step HX0.out b2)
  obtain ⟨W1', hW⟩ : ∃ W1', v1.alloc (.cells x0.s.cells 44) = W1' := ⟨_, rfl⟩
  rw [hW] at HS HV1 HX1 ⊢
  clear hW b2 hb1 CR HV0 HX0
  generalize v1.heap.size = qs at *
  generalize w.heap.size + 1 = qx at *
  have HSR := Lib.hid (Sp.bk (SpAt.rng HS.out))
  obtain ⟨d, ch, e0, hr⟩ : ∃ d ch e0, placeB x0.s.b x 1 0 = (d, ch, e0) := ⟨_, _, _, rfl⟩
  have CC := Lib.hid (by have h := placeBk_any (x := x) (n := 1) (m := 0) HV1.out.at_ HV1.out.made.ok; rw [hr] at h; exact h : Calls Tryz.prog 16 #[x0.s.b.V x0.s.o x0.s.p, x.V, .int .i64 1, .int .i64 0] W1' (B3 W1' (d, ch, e0)))
  have HR0 := Lib.hid hr; clear hr
  go_upto_region 8 with (first | ((with_reducible apply wpList_load_bkm (b := x0.s.b) (s := x0.s.o) (t := x0.s.p) (h := HSR.out)); exact rfl; exact rfl; exact rfl) | ((with_reducible apply wpList_load_kat (h := HX1.out)); exact rfl; exact rfl; exact rfl) | (go_at_call 16; (with_reducible refine (CC.out).mono ?_); rintro e v2 ⟨o1, p1, rfl, ha1, hb2⟩; have HQ : Hid (BkAt ((v2.alloc (.cells Z29 37)).alloc (.cells Z11 48)) v2.heap.size zb none none) := Lib.hid (new2 v2 Z29 Z11 37 48).2.1; have HR : Hid (CgAt (((v2.alloc (.cells Z29 37)).alloc (.cells Z11 48)).setRow v2.heap.size (d.cells o1 p1)) (v2.heap.size + 1) zg) := Lib.hid (At.farRow (new2 v2 Z29 Z11 37 48).2.2 (by omega))) | ((with_reducible apply wpList_store_bk (b := d) (s := o1) (t := p1) (hq := HQ.out)); exact rfl; exact rfl; exact rfl; exact rfl) | ((with_reducible apply wpList_store_cg (c := ch) (hq := HR.out)); exact rfl; exact rfl; exact rfl; exact rfl))
  obtain ⟨bm2, hbk2, hcg2⟩ := made2 v2 d o1 p1 ch
  have hs2 := hb2.trans (bm2.mono hb2.size)
  have HV2 := Lib.hid (HV1.out.step hs2); have HS2 := Lib.hid (HS.out.step hs2)
  have HA2 := Lib.hid (BAt.step ha1 bm2)
  obtain ⟨W2, hW⟩ : ∃ W2, ((((v2.alloc (.cells Z29 37)).alloc (.cells Z11 48)).setRow v2.heap.size (d.cells o1 p1)).setRow (v2.heap.size + 1) ch.cells) = W2 := ⟨_, rfl⟩
  rw [hW] at hbk2 hcg2 HV2 HS2 HA2 ⊢
  clear hW HQ HR CC HSR HS HV1 HX1 ha1 hb2 bm2 hs2
  have HB2 : Hid (BkAt W2 v2.heap.size d o1 p1) := Lib.hid hbk2
  have HC2 : Hid (CgAt W2 (v2.heap.size + 1) ch) := Lib.hid hcg2
  clear hbk2 hcg2
  generalize v2.heap.size + 1 = qc at *
  generalize v2.heap.size = qb at *
  by_cases he : e0 = 0
  · subst he
    have hap : applyB x0.s.b ch = (d, 0) := place_apply HR0.out
    have HAP := Lib.hid hap
    obtain ⟨d2, y, hcx⟩ := cancel_mine (by have h := HR0.out; rw [HXE.out.1] at h; exact h)
    have HCX := Lib.hid hcx
    clear hap hcx HR0
    go_upto_region 11 with fail
    have hch : ch.ix = 1 := by
      have h := (applyB_ok HAP.out).2.1
      rw [HXE.out.1] at h
      rw [h, newB_ix]; rfl
    have HCH := Lib.hid hch; clear hch
    obtain ⟨hx1, hx2, hx3, hx4, hx5⟩ := HXE.out
    have HN0 := Lib.hid hx4; have HM0 := Lib.hid hx5; have HT0 := Lib.hid hx2; have HVN := Lib.hid hx3
    clear hx1 hx2 hx3 hx4 hx5 HXE
    have HV3 : Hid (VS c w W2 g (x0.upTo ((0 : Nat) : Int)) [] []) := Lib.hid (by have h := HV2.out; have e : x0.upTo ((0 : Nat) : Int) = x0 := (by have h2 := HT0.out; unfold Vt.upTo; rw [show ((0 : Nat) : Int) = x0.s.t from h2.symm]); rw [e]; exact h)
    clear HV2
    rw [hN]
    clear hN
    go_wp2_with fail
    go_loopg [15] N (fun gh s15 wx => ∃ i : Nat, i ≤ N ∧ gh = N - i ∧ s15 = .int .i64 (i : Int) ∧ VS c w wx g (x0.upTo (i : Int)) [] [] ∧ SpAt wx qs x0.s ∧ BkAt wx qb d o1 p1 ∧ BAt wx d o1 p1 ∧ CgAt wx qc ch)
    case atStart => exact ⟨0, Nat.zero_le _, rfl, rfl, HV3.out, HS2.out, HB2.out, HA2.out, HC2.out⟩
    case round =>
      clear HV3 HS2 HB2 HA2 HC2
      obtain ⟨i, hi, hg, rfl, hv, hs, hb, ha, hcc⟩ := hrel
      have HG := Lib.hid hg; have HV := Lib.hid hv; have HS := Lib.hid hs; have HB := Lib.hid hb; have HA := Lib.hid ha; have HC := Lib.hid hcc
      clear hg hv hs hb ha hcc
      by_cases hlt : i < N
      · have b3 : (i : Int) < (N : Int) := by omega
        have HLT := Lib.hid hlt
        have CT := Lib.hid (HV.out.tick (show (0 : Int) ≤ (i : Int) by omega) (show (i : Int) < 1000 by have := HN40.out; omega))
        clear hlt hi
        go_wp2_with (go_at_call 10; (with_reducible refine CT.out.mono ?_); rintro e w4 ⟨rfl, hv4, hc4⟩)
        have HV4 : Hid (VS c w w4 g (x0.upTo ((i + 1 : Nat) : Int)) [] []) := Lib.hid hv4
        have HS4 := Lib.hid (HV.out.far hc4 HS.out (by decide) (by decide))
        have HB4 := Lib.hid (HV.out.far hc4 HB.out (by decide) (by decide))
        have HA4 := Lib.hid (HV.out.farB hc4 HA.out)
        have HC4 : Hid (CgAt w4 qc ch) := Lib.hid (HV.out.farC hc4 HC.out (by show x0.v.ownBlock ≠ some qc; rw [HVN.out]; intro h; cases h))
        clear hv4 hc4 CT HV HS HB HA HC
        go_roundg (N - (i + 1))
        case measure => have := HG.out; have := HLT.out; omega
        case rel => exact ⟨i + 1, by have := HLT.out; omega, rfl, (by have h1 := HN40.out; have h2 := HLT.out; rw [IntWalk.wrap64_in _ (by omega)]; rfl), HV4.out, HS4.out, HB4.out, HA4.out, HC4.out⟩
      · obtain rfl : i = N := by omega
        clear hlt hi HG
        have b3 : ¬ (i : Int) < (i : Int) := by omega
        have HSR := Lib.hid (SpAt.rng HS.out)
        have HKR : Hid (wr.rangeAt qs 29 x0.s.k.cs.toList) := Lib.hid (by have h := Sp.ky (SpAt.rng HS.out); rwa [Nat.zero_add] at h)
        have CC := Lib.hid (HV.out.commit (s := x0.s) (k := x0.s.k) rfl (by have h := HN0.out; show 0 ≤ x0.n ∧ x0.n < 1000; omega) (by decide) HA.out HAP.out)
        go_upto_region 18 with (first | ((with_reducible apply wpList_load_spm (c := x0.s) (h := HSR.out)); exact rfl; exact rfl; exact rfl) | ((with_reducible apply wpList_load_bk (h := HB.out)); exact rfl; exact rfl; exact rfl) | ((with_reducible apply wpList_load_cg (h := HC.out)); exact rfl; exact rfl; exact rfl) | ((with_reducible apply wpList_load_ykm (c := x0.s.k) (h := HKR.out)); exact rfl; exact rfl; exact rfl) | (go_at_call 13; (with_reducible refine (CK.out).mono ?_); rintro e W5 ⟨rfl, hb5⟩; have HV4 := Lib.hid (HV3.out.step hb5)) | (go_at_call 14; (with_reducible refine (CR.out).mono ?_); rintro e W4 ⟨rfl, hb4⟩; have HV3 := Lib.hid (HV2.out.step hb4); have CK : Hid (Calls Tryz.prog 13 #[ptr g 0] W4 fun e w' => e = .returned (.int .i64 1) ∧ Below W4.heap.size W4 w') := Lib.hid HV3.out.kept) | ((with_reducible apply wpList_field_now (s := ⟨d, o1, p1, x0.s.k, (i : Int)⟩)); exact rfl; exact rfl; exact rfl) | (go_at_call 9; (with_reducible refine (CC.out).mono ?_); rintro e W3 ⟨rfl, v3, hv3, hc3, hl3⟩; have HV2 : Hid (VS c w W3 g ⟨⟨d, o1, p1, x0.s.k, (i : Int)⟩, v3, x0.n + 1, x0.m⟩ [ch] [ch]) := Lib.hid hv3; have CR := Lib.hid HV2.out.read))
        clear hv3 hc3 hl3 hb4 hb5 HV2 HV3 CC CR CK HSR HKR HV HS HB HA HC
        go_upto_region 20 with fail
        obtain ⟨s2, hs2⟩ : ∃ s2 : Sp, (⟨d, o1, p1, x0.s.k, (i : Int)⟩ : Sp) = s2 := ⟨_, rfl⟩
        rw [hs2] at HV4
        have HDE : Hid (s2.b = d) := Lib.hid (by rw [← hs2])
        clear hs2
        have CR := Lib.hid HV4.out.read
        go_upto_region 21 with (first | (go_at_call 14; (with_reducible refine (CR.out).mono ?_); rintro e v6 ⟨rfl, hb6⟩) | ((with_reducible apply wpList_store_spnew (c := s2)); exact rfl; exact rfl; exact rfl; exact rfl))
        have b6 : Below W5.heap.size W5 (v6.alloc (.cells s2.cells 44)) := hb6.trans ((below_new v6 _).mono hb6.size)
        have HS : Hid (SpAt (v6.alloc (.cells s2.cells 44)) v6.heap.size s2) := Lib.hid (At.new _ _ _)
        have HV6 := Lib.hid (HV4.out.step b6)
        obtain ⟨W7, hW⟩ : ∃ W7, v6.alloc (.cells s2.cells 44) = W7 := ⟨_, rfl⟩
        rw [hW] at HS HV6 ⊢
        clear hW b6 hb6 CR HV4
        generalize v6.heap.size = q16 at *
        have HSR := Lib.hid (Sp.bk (SpAt.rng HS.out))
        have CC := Lib.hid (by have h := cancelBk_any 1 1 HV6.out.at_ HV6.out.made.ok; rw [HDE.out, HCX.out] at h; rw [HDE.out]; exact h : Calls Tryz.prog 17 #[s2.b.V s2.o s2.p, .int .i64 1, .int .i64 1] W7 (B3 W7 (d2, y, 0)))
        go_upto_region 22 with (first | ((with_reducible apply wpList_load_bkm (b := s2.b) (s := s2.o) (t := s2.p) (h := HSR.out)); exact rfl; exact rfl; exact rfl) | (go_at_call 17; (with_reducible refine (CC.out).mono ?_); rintro e v8 ⟨o3, p3, rfl, ha3, hb8⟩; have HQ : Hid (BkAt ((v8.alloc (.cells Z29 37)).alloc (.cells Z11 48)) v8.heap.size zb none none) := Lib.hid (new2 v8 Z29 Z11 37 48).2.1; have HR : Hid (CgAt (((v8.alloc (.cells Z29 37)).alloc (.cells Z11 48)).setRow v8.heap.size (d2.cells o3 p3)) (v8.heap.size + 1) zg) := Lib.hid (At.farRow (new2 v8 Z29 Z11 37 48).2.2 (by omega))) | ((with_reducible apply wpList_store_bk (b := d2) (s := o3) (t := p3) (hq := HQ.out)); exact rfl; exact rfl; exact rfl; exact rfl) | ((with_reducible apply wpList_store_cg (c := y) (hq := HR.out)); exact rfl; exact rfl; exact rfl; exact rfl))
        obtain ⟨bm8, hbk8, hcg8⟩ := made2 v8 d2 o3 p3 y
        have hs8 := hb8.trans (bm8.mono hb8.size)
        have HV8 := Lib.hid (HV6.out.step hs8); have HS8 := Lib.hid (HS.out.step hs8)
        have HA8 := Lib.hid (BAt.step ha3 bm8)
        have HNE : Hid (v3.ownBlock ≠ some (v8.heap.size + 1)) := Lib.hid (fun e => by have h1 := (HV6.out.ow.lt e).2; have h2 := hb8.size; omega)
        obtain ⟨W8, hW⟩ : ∃ W8, ((((v8.alloc (.cells Z29 37)).alloc (.cells Z11 48)).setRow v8.heap.size (d2.cells o3 p3)).setRow (v8.heap.size + 1) y.cells) = W8 := ⟨_, rfl⟩
        rw [hW] at hbk8 hcg8 HV8 HS8 HA8 ⊢
        clear hW HQ HR CC HSR HS HV6 ha3 hb8 bm8 hs8
        have HB8 : Hid (BkAt W8 v8.heap.size d2 o3 p3) := Lib.hid hbk8
        have HC8 : Hid (CgAt W8 (v8.heap.size + 1) y) := Lib.hid hcg8
        clear hbk8 hcg8
        generalize v8.heap.size + 1 = q18 at *
        generalize v8.heap.size = q17 at *
        have hap2 : applyB s2.b y = (d2, 0) := HV8.out.made.cancel (by rw [HDE.out]; exact HCX.out)
        have HAP2 := Lib.hid hap2
        have hyx : y.ix = 2 := by
          have h := (applyB_ok hap2).2.1
          rw [HV8.out.made.len] at h
          exact h
        have HYX := Lib.hid hyx
        clear hap2 hyx
        have HSR := Lib.hid (SpAt.rng HS8.out)
        have HKR : Hid (W8.rangeAt q16 29 s2.k.cs.toList) := Lib.hid (by have h := Sp.ky (SpAt.rng HS8.out); rwa [Nat.zero_add] at h)
        have CC := Lib.hid (HV8.out.commit (s := s2) (k := s2.k) rfl (by have h := HN0.out; show 0 ≤ x0.n + 1 ∧ x0.n + 1 < 1000; omega) (by show (1 : Nat) < 200; decide) HA8.out HAP2.out)
        go_upto_region 23 with (first | ((with_reducible apply wpList_load_spm (c := s2) (h := HSR.out)); exact rfl; exact rfl; exact rfl) | ((with_reducible apply wpList_load_bk (h := HB8.out)); exact rfl; exact rfl; exact rfl) | ((with_reducible apply wpList_load_cg (h := HC8.out)); exact rfl; exact rfl; exact rfl) | ((with_reducible apply wpList_load_ykm (c := s2.k) (h := HKR.out)); exact rfl; exact rfl; exact rfl) | (go_at_call 9; (with_reducible refine (CC.out).mono ?_); rintro e W9 ⟨rfl, v9, hv9, hc9, hl9⟩))
        have HV9 : Hid (VS c w W9 g ⟨⟨d2, o3, p3, s2.k, s2.t⟩, v9, x0.n + 1 + 1, x0.m⟩ [ch, y] ([ch] ++ [y])) := Lib.hid hv9
        have HS9 := Lib.hid (HV8.out.far hc9 HS8.out (by decide) (by decide))
        have HB9 := Lib.hid (HV8.out.far hc9 HB8.out (by decide) (by decide))
        have HC9 : Hid (CgAt W9 q18 y) := Lib.hid (HV8.out.farC hc9 HC8.out HNE.out)
        have HNE9 : Hid (v9.ownBlock ≠ some q18) := Lib.hid (fun e => HNE.out (hl9.old e HC8.out.lt))
        clear hv9 hc9 hl9 CC HSR HKR HV8 HS8 HB8 HC8 HA8 HNE
        have HSR := Lib.hid (SpAt.rng HS9.out)
        have HKR : Hid (W9.rangeAt q16 29 s2.k.cs.toList) := Lib.hid (by have h := Sp.ky (SpAt.rng HS9.out); rwa [Nat.zero_add] at h)
        have hst : s2.b.ix ≠ d2.ix := by
          have h := HV9.out.made.len
          have h1 : d2.ix = 2 := h
          have h2 := (applyB_ok HAP2.out).2.1
          rw [HYX.out] at h2
          omega
        have CC := Lib.hid (HV9.out.stale (s := s2) (b := d2) (o := o3) (p := p3) (ch := y) (k := s2.k) hst (by have h := HN0.out; show 0 ≤ x0.n + 1 + 1 ∧ x0.n + 1 + 1 < 1000; omega) (by have h := HM0.out; show 0 ≤ x0.m ∧ x0.m < 1000; omega))
        clear hst
        go_upto_region 24 with (first | ((with_reducible apply wpList_load_spm (c := s2) (h := HSR.out)); exact rfl; exact rfl; exact rfl) | ((with_reducible apply wpList_load_bk (h := HB9.out)); exact rfl; exact rfl; exact rfl) | ((with_reducible apply wpList_load_cg (h := HC9.out)); exact rfl; exact rfl; exact rfl) | ((with_reducible apply wpList_load_ykm (c := s2.k) (h := HKR.out)); exact rfl; exact rfl; exact rfl) | (go_at_call 9; (with_reducible refine (CC.out).mono ?_); rintro e W10 ⟨rfl, hv10, hc10⟩))
        have HC10 : Hid (CgAt W10 q18 y) := Lib.hid (HV9.out.farC hc10 HC9.out HNE9.out)
        have HV10 := Lib.hid hv10
        clear hv10 hc10 CC HSR HKR HV9 HS9 HB9 HC9 HNE9
        have CS : Hid (Calls Tryz.prog 11 #[ptr g 0, .int .i64 1] W10 fun e w' => ∃ b1 off1 cp, e = .returned (.slice (some ⟨b1, off1, none⟩) 1 cp) ∧ b1 < w'.heap.size ∧ w'.rangeAt b1 off1 y.cells.toList ∧ Below W10.heap.size W10 w') := Lib.hid ((HV10.out.since (by show (2 : Nat) ≤ 200; decide) 1).mono (fun e w' h => by
          obtain ⟨v', rfl, h1, h2⟩ := h
          rw [show since ([ch] ++ [y]) 1 = [y] from since_two2 HCH.out HYX.out] at h1
          obtain ⟨O, cp, rfl, _, h3⟩ := h1.rd
          obtain ⟨b1, off1, rfl, h4, h5⟩ := h3 0 y rfl
          exact ⟨b1, off1, cp, rfl, h4, fun j u hu => by have := h5 j u hu; rwa [Nat.zero_mul, Nat.add_zero] at this, h2⟩))
        go_upto_region 25 with (go_at_call 11; (with_reducible refine (CS.out).mono ?_); rintro e W11 ⟨b1, off1, cp, rfl, l1, k1, hb11⟩)
        have HB11 := Lib.hid (HV10.out.bel.trans (hb11.mono HV10.out.bel.size))
        have HC11 := Lib.hid (HC10.out.step hb11)
        have KR := Lib.hid k1; have L1 := Lib.hid l1
        have HYB := Lib.hid (Cg.beq_self y)
        clear k1 l1 hb11 CS HC10 HV10
        refine AnyOrder.region_kinds2 22 [.eq (.int .i64 0), .eq (.bool true), .eq (.bool true), .eq (.int .i64 0), .eq (.bool true), .eq (.bool true), .eq (.bool true), .eq (.int .i64 9), .eq (.bool true), .eq (.bool true), .eq (.bool true), .eq (.slice (some ⟨b1, off1, none⟩) 1 cp), .eq (.int .i64 1), .eq (.bool true), .eq (.bool true), .eq (.bool true), .eq (.slice (some ⟨b1, off1, none⟩) 1 cp), .eq (ptr b1 off1), .eq (y.V), .eq (y.V), .eq (.bool true), .eq (.bool true)] (fun wx => Below W11.heap.size W11 wx) (by kernel_rfl) (by kernel_rfl) rfl (by kernel_rfl) (below_drewN (Below.refl _ _) 1) (fun p _ _ hp => by simp at hp) ?_ ?_
        · intro i o listed a1 w2 hin ho st hl hdep
          match i, ho with
          | 0, ho => (injection ho with ho; subst ho; have ec : ∀ v, a1.eval (.const v) = v := fun _ => rfl; have ef : ∀ f, a1.eval (.func f) = .func (.func f) #[] #[] := fun _ => rfl; have e0 : a1.eval (.tmp 19) = .int .i64 0 := st.old hl 19 (by kernel_rfl); exact AnyOrder.step_value rfl (AnyOrder.wanted_none rfl) (.int .i64 0) (AnyOrder.run_move e0) st.inv (Below.refl _ _) rfl)
          | 1, ho => (injection ho with ho; subst ho; have ec : ∀ v, a1.eval (.const v) = v := fun _ => rfl; have ef : ∀ f, a1.eval (.func f) = .func (.func f) #[] #[] := fun _ => rfl; have e0 : a1.eval (.tmp 104) = .int .i64 0 := st.done 0 104 (hdep ⟨0, .data⟩ (by simp) rfl) rfl; exact AnyOrder.step_value rfl (AnyOrder.wanted_none rfl) (.bool true) (by generalize a1.eval = ρ at ec ef e0 ⊢; simp [execOp, ec, ef, e0, IntWalk.i64_left, go_sem]) st.inv (Below.refl _ _) rfl)
          | 2, ho => (injection ho with ho; subst ho; have ec : ∀ v, a1.eval (.const v) = v := fun _ => rfl; have ef : ∀ f, a1.eval (.func f) = .func (.func f) #[] #[] := fun _ => rfl; have e0 : a1.eval (.tmp 105) = .bool true := st.done 1 105 (hdep ⟨1, .data⟩ (by simp) rfl) rfl; exact AnyOrder.step_value rfl (AnyOrder.wanted_none rfl) (.bool true) (AnyOrder.run_move e0) st.inv (Below.refl _ _) rfl)
          | 3, ho => (injection ho with ho; subst ho; have ec : ∀ v, a1.eval (.const v) = v := fun _ => rfl; have ef : ∀ f, a1.eval (.func f) = .func (.func f) #[] #[] := fun _ => rfl; have e0 : a1.eval (.tmp 20) = .int .i64 0 := st.old hl 20 (by kernel_rfl); have eg : a1.eval (.tmp 106) = .bool true := st.done 2 106 (hdep ⟨2, .guard⟩ (by simp) rfl) rfl; exact AnyOrder.step_value rfl ((AnyOrder.wanted_of rfl rfl eg).trans rfl) (.int .i64 0) (AnyOrder.run_move e0) st.inv (Below.refl _ _) rfl)
          | 4, ho => (injection ho with ho; subst ho; have ec : ∀ v, a1.eval (.const v) = v := fun _ => rfl; have ef : ∀ f, a1.eval (.func f) = .func (.func f) #[] #[] := fun _ => rfl; have e0 : a1.eval (.tmp 107) = .int .i64 0 := st.done 3 107 (hdep ⟨3, .data⟩ (by simp) rfl) rfl; have eg : a1.eval (.tmp 106) = .bool true := st.done 2 106 (hdep ⟨2, .guard⟩ (by simp) rfl) rfl; exact AnyOrder.step_value rfl ((AnyOrder.wanted_of rfl rfl eg).trans rfl) (.bool true) (by generalize a1.eval = ρ at ec ef e0 ⊢; simp [execOp, ec, ef, e0, IntWalk.i64_left, go_sem]) st.inv (Below.refl _ _) rfl)
          | 5, ho => (injection ho with ho; subst ho; have ec : ∀ v, a1.eval (.const v) = v := fun _ => rfl; have ef : ∀ f, a1.eval (.func f) = .func (.func f) #[] #[] := fun _ => rfl; have e0 : a1.eval (.tmp 106) = .bool true := st.done 2 106 (hdep ⟨2, .data⟩ (by simp) rfl) rfl; have e1 : a1.eval (.tmp 108) = .bool true := st.done 4 108 (hdep ⟨4, .data⟩ (by simp) rfl) rfl; exact AnyOrder.step_value rfl (AnyOrder.wanted_none rfl) (.bool true) (by generalize a1.eval = ρ at ec ef e0 e1 ⊢; simp [execOp, ec, ef, e0, e1, IntWalk.i64_left, go_sem]) st.inv (Below.refl _ _) rfl)
          | 6, ho => (injection ho with ho; subst ho; have ec : ∀ v, a1.eval (.const v) = v := fun _ => rfl; have ef : ∀ f, a1.eval (.func f) = .func (.func f) #[] #[] := fun _ => rfl; have e0 : a1.eval (.tmp 109) = .bool true := st.done 5 109 (hdep ⟨5, .data⟩ (by simp) rfl) rfl; exact AnyOrder.step_value rfl (AnyOrder.wanted_none rfl) (.bool true) (AnyOrder.run_move e0) st.inv (Below.refl _ _) rfl)
          | 7, ho => (injection ho with ho; subst ho; have ec : ∀ v, a1.eval (.const v) = v := fun _ => rfl; have ef : ∀ f, a1.eval (.func f) = .func (.func f) #[] #[] := fun _ => rfl; have e0 : a1.eval (.tmp 21) = .int .i64 9 := st.old hl 21 (by kernel_rfl); have eg : a1.eval (.tmp 110) = .bool true := st.done 6 110 (hdep ⟨6, .guard⟩ (by simp) rfl) rfl; exact AnyOrder.step_value rfl ((AnyOrder.wanted_of rfl rfl eg).trans rfl) (.int .i64 9) (AnyOrder.run_move e0) st.inv (Below.refl _ _) rfl)
          | 8, ho => (injection ho with ho; subst ho; have ec : ∀ v, a1.eval (.const v) = v := fun _ => rfl; have ef : ∀ f, a1.eval (.func f) = .func (.func f) #[] #[] := fun _ => rfl; have e0 : a1.eval (.tmp 111) = .int .i64 9 := st.done 7 111 (hdep ⟨7, .data⟩ (by simp) rfl) rfl; have eg : a1.eval (.tmp 110) = .bool true := st.done 6 110 (hdep ⟨6, .guard⟩ (by simp) rfl) rfl; exact AnyOrder.step_value rfl ((AnyOrder.wanted_of rfl rfl eg).trans rfl) (.bool true) (by generalize a1.eval = ρ at ec ef e0 ⊢; simp [execOp, ec, ef, e0, IntWalk.i64_left, go_sem]) st.inv (Below.refl _ _) rfl)
          | 9, ho => (injection ho with ho; subst ho; have ec : ∀ v, a1.eval (.const v) = v := fun _ => rfl; have ef : ∀ f, a1.eval (.func f) = .func (.func f) #[] #[] := fun _ => rfl; have e0 : a1.eval (.tmp 110) = .bool true := st.done 6 110 (hdep ⟨6, .data⟩ (by simp) rfl) rfl; have e1 : a1.eval (.tmp 112) = .bool true := st.done 8 112 (hdep ⟨8, .data⟩ (by simp) rfl) rfl; exact AnyOrder.step_value rfl (AnyOrder.wanted_none rfl) (.bool true) (by generalize a1.eval = ρ at ec ef e0 e1 ⊢; simp [execOp, ec, ef, e0, e1, IntWalk.i64_left, go_sem]) st.inv (Below.refl _ _) rfl)
          | 10, ho => (injection ho with ho; subst ho; have ec : ∀ v, a1.eval (.const v) = v := fun _ => rfl; have ef : ∀ f, a1.eval (.func f) = .func (.func f) #[] #[] := fun _ => rfl; have e0 : a1.eval (.tmp 113) = .bool true := st.done 9 113 (hdep ⟨9, .data⟩ (by simp) rfl) rfl; exact AnyOrder.step_value rfl (AnyOrder.wanted_none rfl) (.bool true) (AnyOrder.run_move e0) st.inv (Below.refl _ _) rfl)
          | 11, ho => (injection ho with ho; subst ho; have ec : ∀ v, a1.eval (.const v) = v := fun _ => rfl; have ef : ∀ f, a1.eval (.func f) = .func (.func f) #[] #[] := fun _ => rfl; have e0 : a1.eval (.tmp 22) = .slice (some ⟨b1, off1, none⟩) 1 cp := st.old hl 22 (by kernel_rfl); have eg : a1.eval (.tmp 114) = .bool true := st.done 10 114 (hdep ⟨10, .guard⟩ (by simp) rfl) rfl; exact AnyOrder.step_value rfl ((AnyOrder.wanted_of rfl rfl eg).trans rfl) (.slice (some ⟨b1, off1, none⟩) 1 cp) (AnyOrder.run_move e0) st.inv (Below.refl _ _) rfl)
          | 12, ho => (injection ho with ho; subst ho; have ec : ∀ v, a1.eval (.const v) = v := fun _ => rfl; have ef : ∀ f, a1.eval (.func f) = .func (.func f) #[] #[] := fun _ => rfl; have e0 : a1.eval (.tmp 115) = .slice (some ⟨b1, off1, none⟩) 1 cp := st.done 11 115 (hdep ⟨11, .data⟩ (by simp) rfl) rfl; have eg : a1.eval (.tmp 114) = .bool true := st.done 10 114 (hdep ⟨10, .guard⟩ (by simp) rfl) rfl; exact AnyOrder.step_value rfl ((AnyOrder.wanted_of rfl rfl eg).trans rfl) (.int .i64 1) (by generalize a1.eval = ρ at ec ef e0 ⊢; simp [execOp, ec, ef, e0, IntWalk.i64_left, go_sem]) st.inv (Below.refl _ _) rfl)
          | 13, ho => (injection ho with ho; subst ho; have ec : ∀ v, a1.eval (.const v) = v := fun _ => rfl; have ef : ∀ f, a1.eval (.func f) = .func (.func f) #[] #[] := fun _ => rfl; have e0 : a1.eval (.tmp 116) = .int .i64 1 := st.done 12 116 (hdep ⟨12, .data⟩ (by simp) rfl) rfl; have eg : a1.eval (.tmp 114) = .bool true := st.done 10 114 (hdep ⟨10, .guard⟩ (by simp) rfl) rfl; exact AnyOrder.step_value rfl ((AnyOrder.wanted_of rfl rfl eg).trans rfl) (.bool true) (by generalize a1.eval = ρ at ec ef e0 ⊢; simp [execOp, ec, ef, e0, IntWalk.i64_left, go_sem]) st.inv (Below.refl _ _) rfl)
          | 14, ho => (injection ho with ho; subst ho; have ec : ∀ v, a1.eval (.const v) = v := fun _ => rfl; have ef : ∀ f, a1.eval (.func f) = .func (.func f) #[] #[] := fun _ => rfl; have e0 : a1.eval (.tmp 114) = .bool true := st.done 10 114 (hdep ⟨10, .data⟩ (by simp) rfl) rfl; have e1 : a1.eval (.tmp 117) = .bool true := st.done 13 117 (hdep ⟨13, .data⟩ (by simp) rfl) rfl; exact AnyOrder.step_value rfl (AnyOrder.wanted_none rfl) (.bool true) (by generalize a1.eval = ρ at ec ef e0 e1 ⊢; simp [execOp, ec, ef, e0, e1, IntWalk.i64_left, go_sem]) st.inv (Below.refl _ _) rfl)
          | 15, ho => (injection ho with ho; subst ho; have ec : ∀ v, a1.eval (.const v) = v := fun _ => rfl; have ef : ∀ f, a1.eval (.func f) = .func (.func f) #[] #[] := fun _ => rfl; have e0 : a1.eval (.tmp 118) = .bool true := st.done 14 118 (hdep ⟨14, .data⟩ (by simp) rfl) rfl; exact AnyOrder.step_value rfl (AnyOrder.wanted_none rfl) (.bool true) (AnyOrder.run_move e0) st.inv (Below.refl _ _) rfl)
          | 16, ho => (injection ho with ho; subst ho; have ec : ∀ v, a1.eval (.const v) = v := fun _ => rfl; have ef : ∀ f, a1.eval (.func f) = .func (.func f) #[] #[] := fun _ => rfl; have e0 : a1.eval (.tmp 22) = .slice (some ⟨b1, off1, none⟩) 1 cp := st.old hl 22 (by kernel_rfl); have eg : a1.eval (.tmp 119) = .bool true := st.done 15 119 (hdep ⟨15, .guard⟩ (by simp) rfl) rfl; exact AnyOrder.step_value rfl ((AnyOrder.wanted_of rfl rfl eg).trans rfl) (.slice (some ⟨b1, off1, none⟩) 1 cp) (AnyOrder.run_move e0) st.inv (Below.refl _ _) rfl)
          | 17, ho => (injection ho with ho; subst ho; have ec : ∀ v, a1.eval (.const v) = v := fun _ => rfl; have ef : ∀ f, a1.eval (.func f) = .func (.func f) #[] #[] := fun _ => rfl; have e0 : a1.eval (.tmp 120) = .slice (some ⟨b1, off1, none⟩) 1 cp := st.done 16 120 (hdep ⟨16, .data⟩ (by simp) rfl) rfl; have eg : a1.eval (.tmp 119) = .bool true := st.done 15 119 (hdep ⟨15, .guard⟩ (by simp) rfl) rfl; exact AnyOrder.step_value rfl ((AnyOrder.wanted_of rfl rfl eg).trans rfl) (ptr b1 off1) (by generalize a1.eval = ρ at ec ef e0 ⊢; simp [execOp, ec, ef, e0, IntWalk.i64_left, go_sem]) st.inv (Below.refl _ _) rfl)
          | 18, ho => (injection ho with ho; subst ho; have ec : ∀ v, a1.eval (.const v) = v := fun _ => rfl; have ef : ∀ f, a1.eval (.func f) = .func (.func f) #[] #[] := fun _ => rfl; have e0 : a1.eval (.tmp 121) = ptr b1 off1 := st.done 17 121 (hdep ⟨17, .data⟩ (by simp) rfl) rfl; have eg : a1.eval (.tmp 119) = .bool true := st.done 15 119 (hdep ⟨15, .guard⟩ (by simp) rfl) rfl; exact AnyOrder.step_value rfl ((AnyOrder.wanted_of rfl rfl eg).trans rfl) (y.V) (run_load_cgr e0 (rng_below KR.out L1.out st.inv)) st.inv (Below.refl _ _) rfl)
          | 19, ho => (injection ho with ho; subst ho; have ec : ∀ v, a1.eval (.const v) = v := fun _ => rfl; have ef : ∀ f, a1.eval (.func f) = .func (.func f) #[] #[] := fun _ => rfl; have e0 : a1.eval (.tmp 18) = ptr q18 0 := st.old hl 18 (by kernel_rfl); have eg : a1.eval (.tmp 119) = .bool true := st.done 15 119 (hdep ⟨15, .guard⟩ (by simp) rfl) rfl; exact AnyOrder.step_value rfl ((AnyOrder.wanted_of rfl rfl eg).trans rfl) (y.V) (run_load_cg e0 (At.step HC11.out st.inv)) st.inv (Below.refl _ _) rfl)
          | 20, ho => (injection ho with ho; subst ho; have ec : ∀ v, a1.eval (.const v) = v := fun _ => rfl; have ef : ∀ f, a1.eval (.func f) = .func (.func f) #[] #[] := fun _ => rfl; have e0 : a1.eval (.tmp 122) = y.V := st.done 18 122 (hdep ⟨18, .data⟩ (by simp) rfl) rfl; have e1 : a1.eval (.tmp 123) = y.V := st.done 19 123 (hdep ⟨19, .data⟩ (by simp) rfl) rfl; have eg : a1.eval (.tmp 119) = .bool true := st.done 15 119 (hdep ⟨15, .guard⟩ (by simp) rfl) rfl; exact AnyOrder.step_value rfl ((AnyOrder.wanted_of rfl rfl eg).trans rfl) (.bool true) (run_eql39_self e0 e1) st.inv (Below.refl _ _) rfl)
          | 21, ho => (injection ho with ho; subst ho; have ec : ∀ v, a1.eval (.const v) = v := fun _ => rfl; have ef : ∀ f, a1.eval (.func f) = .func (.func f) #[] #[] := fun _ => rfl; have e0 : a1.eval (.tmp 119) = .bool true := st.done 15 119 (hdep ⟨15, .data⟩ (by simp) rfl) rfl; have e1 : a1.eval (.tmp 124) = .bool true := st.done 20 124 (hdep ⟨20, .data⟩ (by simp) rfl) rfl; exact AnyOrder.step_value rfl (AnyOrder.wanted_none rfl) (.bool true) (by generalize a1.eval = ρ at ec ef e0 e1 ⊢; simp [execOp, ec, ef, e0, e1, IntWalk.i64_left, go_sem]) st.inv (Below.refl _ _) rfl)
          | n + 22, ho => exact absurd hin (by omega)
        · intro wz hJz
          simp only [AnyOrder.finK, List.take_succ_cons, List.take_zero, List.drop_succ_cons, List.drop_zero, Act.put, List.setIfInBounds_toArray, List.set_cons_zero, List.set_cons_succ]
          go_wp2_with fail
          go_ret
          exact ⟨rfl, HB11.out.trans (hJz.mono HB11.out.size)⟩
  · have hne : (e0 != 0) = true := by simpa using he
    have HF := Lib.hid HV2.out.bel
    clear HR0 he HV2 HS2 HA2 HB2 HC2
    go_wp2_with fail
    go_ret
    exact ⟨rfl, HF.out⟩
theorem ticks_walk (c : Cfg) (x : K) (tk : Int) (f : Bool) (w : World) : Calls Tryz.prog 5 #[c.V, x.V, .int .i64 tk, .bool f] w (Yes w true) := by
  cases hc : okc c
  · exact ticks_no c x tk w f hc
  · cases f
    · exact ticks_ok_false c x tk w hc
    · exact ticks_ok_true c x tk w hc
end Go.Proofs.YtlmdhkaplemjpaaGreat
