/- BookExact: the walk. -/
import Derived.Test.YtodacdooooeofaaGreatRbK
import Derived.Deep.CutBlock
namespace Go.Proofs.YtodacdooooeofaaGreat
open Go.RowKit Go.Lib
open Sh.Plain (KV put del Rise)
set_option linter.unusedVariables false
set_option linter.unusedSimpArgs false

/-- what both deeds answered -/
structure Res2 (b : Bk) (u : U) (j : Nat) (d : Bk) (v : U) (x z : Cg) (e f : Int) : Prop where
  rel : Rel d v
  eqx : x = z
  eqe : e = f
  tie : e = 0 → Tie d v (j + 1)
theorem Res2.of {b : Bk} {u : U} {j : Nat} {d : Bk} {v : U} {x z : Cg} {e f : Int} (h : Both b u j (d, x, e) (v, z, f)) : Res2 b u j d v x z e f :=
  ⟨h.rel, congrArg Prod.fst h.snd, congrArg Prod.snd h.snd, h.tie⟩
theorem Res2.ofA {b : Bk} {u : U} {j : Nat} {d : Bk} {v : U} {e f : Int} (h : BothA b u j (d, e) (v, f)) : Res2 b u j d v zg zg e f := ⟨h.rel, rfl, h.snd, h.tie⟩
set_option maxRecDepth 100000 in
set_option maxHeartbeats 16000000 in
theorem exact_walk (c : Cfg) (A : Option Addr) (cap : Nat) (id : Int) (ds : List Dd) (w : World) (hA : DdsAt w w.heap.size A ds) (hl : ds.length ≤ maxLen) (hwf : ∀ y ∈ ds, inI64 y.ch.ix) : Calls Tryz.prog 3 #[c.V, .slice A ds.length cap, .int .i64 id] w (Yes w true) := by
  have H := Lib.hid (new1 w c.cells 24)
  have HA := Lib.hid hA; clear hA
  have HL : Hid (ds.length ≤ 9223372036854775807) := Lib.hid (by unfold maxLen at hl; omega)
  have HWF := Lib.hid hwf
  clear hl hwf
  obtain ⟨N, hN⟩ : ∃ N, ds.length = N := ⟨_, rfl⟩
  rw [hN] at HL ⊢
  have HN := Lib.hid hN; clear hN
  have CA := Lib.hid awake_any
  have CN := Lib.hid (newBook_any c)
  have CV := Lib.hid (newU_any c)
  go_enter Tryz.func3, Tryz.ntmps3
  go_upto_region 1 with fail
  obtain ⟨W, hW⟩ : ∃ W, w.alloc (.cells c.cells 24) = W := ⟨_, rfl⟩
  rw [hW] at H ⊢; clear hW
  go_upto_region 3 with (go_at_call 5; (with_reducible refine (CA.out _).mono ?_); rintro e W1 ⟨rfl, hb1⟩)
  have HC : Hid (CAt W1 w.heap.size c) := Lib.hid (At.step H.out.2 hb1)
  have HB := Lib.hid (H.out.1.trans (hb1.mono H.out.1.size)); clear H CA hb1
  go_upto_region 4 with (first | ((with_reducible apply wpList_load_cat (h := HC.out)); exact rfl; exact rfl; exact rfl) | (go_at_call 6; (with_reducible refine (CN.out _).mono ?_); rintro e v0 ⟨o0, p0, rfl, ha0, hb0⟩) | ((with_reducible apply wpList_store_bknew (b := newB c) (s := o0) (t := p0)); exact rfl; exact rfl; exact rfl; exact rfl))
  have hbn := below_new v0 (.cells ((newB c).cells o0 p0) 32)
  have hk0 := At.new v0 32 ((newB c).cells o0 p0)
  have hc0 := At.step (At.step HC.out hb0) hbn
  have hB0 := HB.out.trans ((hb0.trans (hbn.mono hb0.size)).mono HB.out.size)
  have ha1 := BAt.step ha0 hbn
  have lq : w.heap.size ≤ v0.heap.size := Nat.le_trans HB.out.size hb0.size
  obtain ⟨W2, hW⟩ : ∃ W2, v0.alloc (.cells ((newB c).cells o0 p0) 32) = W2 := ⟨_, rfl⟩
  rw [hW] at hbn hk0 hc0 hB0 ha1 ⊢; clear hW ha0 hb0 hbn
  generalize v0.heap.size = q7 at *
  have HC2 := Lib.hid hc0; have HK2 := Lib.hid hk0; have HB2 := Lib.hid hB0; have HA2 := Lib.hid ha1; have HLQ := Lib.hid lq
  clear hc0 hk0 hB0 ha1 lq HC HB CN
  go_upto_region 5 with (first | ((with_reducible apply wpList_load_cat (h := HC2.out)); exact rfl; exact rfl; exact rfl) | (go_at_call 7; (with_reducible refine (CV.out _).mono ?_); rintro e v1 ⟨s1, t1, rfl, hu1, hb1⟩) | ((with_reducible apply wpList_store_unew (c := newU c) (s := s1) (t := t1)); exact rfl; exact rfl; exact rfl; exact rfl))
  have hbn := below_new v1 (.cells ((newU c).cells s1 t1) 36)
  have hb2 := hb1.trans (hbn.mono hb1.size)
  have hxs : XS w (v1.alloc (.cells ((newU c).cells s1 t1) 36)) w.heap.size q7 v1.heap.size c (newB c) o0 p0 (newU c) s1 t1 :=
    ⟨HB2.out.trans (hb2.mono HB2.out.size), At.step HC2.out hb2, At.step HK2.out hb2, BAt.step HA2.out hb2, At.new v1 36 _, hu1.step hbn, ⟨HLQ.out, Nat.le_trans HB2.out.size hb1.size⟩⟩
  obtain ⟨W3, hW⟩ : ∃ W3, v1.alloc (.cells ((newU c).cells s1 t1) 36) = W3 := ⟨_, rfl⟩
  rw [hW] at hxs ⊢; clear hW hu1 hb1 hbn hb2 HC2 HK2 HB2 HA2 HLQ CV
  generalize v1.heap.size = q8 at *
  have HXS := Lib.hid hxs; clear hxs
  have HTIE := Lib.hid (Tie.new c)
  generalize newB c = b0 at *
  generalize newU c = u0 at *
  have CAL := Lib.hid (alike_any HXS.out.at_ HXS.out.ua HTIE.out.rel)
  have HG := Lib.hid HXS.out.bk; have HG2 := Lib.hid HXS.out.uk
  go_upto_region 7 with (first | ((with_reducible apply wpList_load_bk (h := HG.out)); exact rfl; exact rfl; exact rfl) | ((with_reducible apply wpList_load_uk (h := HG2.out)); exact rfl; exact rfl; exact rfl) | (go_at_call 8; (with_reducible refine CAL.out.mono ?_); rintro e W4 ⟨rfl, hb4⟩))
  have HXS0 := Lib.hid (HXS.out.step hb4)
  clear HXS CAL HG HG2 hb4
  go_wp2_with fail
  go_loopg [9] N (fun gh s9 wx => ∃ (j : Nat) (b : Bk) (o p : Option Addr) (u : U) (s t : Sl), j ≤ N ∧ j ≤ 60 ∧ gh = N - j ∧ s9 = .int .i64 (j : Int) ∧ XS w wx w.heap.size q7 q8 c b o p u s t ∧ Tie b u j)
  case atStart => exact ⟨0, b0, o0, p0, u0, s1, t1, Nat.zero_le _, by omega, rfl, rfl, HXS0.out, HTIE.out⟩
  case round =>
    obtain ⟨j, b, o, p, u, s, t, hj, hj60, hg, rfl, hxs, htie⟩ := hrel
    have HG0 := Lib.hid hg; clear hg HXS0 HTIE
    have HXS := Lib.hid hxs; have HTIE := Lib.hid htie; clear hxs htie
    have b4 : (0 : Int) ≤ (j : Int) := by omega
    by_cases hlt : j < N ∧ j < 60
    · obtain ⟨b1, o1, rfl, l1, k1⟩ := HA.out j (by rw [HN.out]; exact hlt.1)
      have hyr : inI64 (ds.getD j zd).ch.ix := HWF.out _ (by
        have hjl : j < ds.length := by rw [HN.out]; exact hlt.1
        rw [List.getD_eq_getElem?_getD, List.getElem?_eq_getElem hjl]
        exact List.getElem_mem hjl)
      have b3 : (j : Int) < (N : Int) := by omega
      have b6 : (j : Int) < 60 := by omega
      have HJ := Lib.hid hlt; clear hlt
      have KR := Lib.hid (rng_below k1 l1 HXS.out.bel)
      clear k1 l1
      generalize ds.getD j zd = y at *
      have HYR := Lib.hid hyr; clear hyr
      go_upto_region 11 with (first | ((with_reducible apply wpList_load_dd (y := y) (h := KR.out)); exact rfl; exact rfl; exact rfl) | ((with_reducible apply wpList_store_ddnew (c := y)); exact rfl; exact rfl; exact rfl; exact rfl))
      have bd := below_new wr (.cells y.cells 44)
      have HDD0 := At.new wr 44 y.cells
      obtain ⟨V1, hW⟩ : ∃ V1, wr.alloc (.cells y.cells 44) = V1 := ⟨_, rfl⟩
      rw [hW] at bd HDD0 ⊢; clear hW KR
      have HX1 := Lib.hid (HXS.out.step bd); have HD1 : Hid (DdAt V1 wr.heap.size y) := Lib.hid HDD0
      clear HXS bd HDD0
      generalize wr.heap.size = g9 at *
      have HG1 := Lib.hid HX1.out.bk
      have HYN := Lib.hid (YS.new HX1.out HD1.out _ rfl)
      go_upto_region 12 with (first | ((with_reducible apply wpList_load_bk (h := HG1.out)); exact rfl; exact rfl; exact rfl) | ((with_reducible apply wpList_store_bknew (b := b) (s := o) (t := p)); exact rfl; exact rfl; exact rfl; exact rfl))
      have hbn := below_new V1 (.cells (b.cells o p) 32)
      have HG2 := Lib.hid (At.step HX1.out.uk hbn)
      obtain ⟨V2, hV2⟩ : ∃ V2, V1.alloc (.cells (b.cells o p) 32) = V2 := ⟨_, rfl⟩
      have e2 : Hid (V2.heap.size = V1.heap.size + 1) := Lib.hid (by rw [← hV2]; simp)
      rw [hV2] at HG2 HYN ⊢; clear hV2 HG1 hbn
      go_upto_region 13 with (first | ((with_reducible apply wpList_load_uk (h := HG2.out)); exact rfl; exact rfl; exact rfl) | ((with_reducible apply wpList_store_unew (c := u) (s := s) (t := t)); exact rfl; exact rfl; exact rfl; exact rfl))
      obtain ⟨V3, hV3⟩ : ∃ V3, V2.alloc (.cells (u.cells s t) 36) = V3 := ⟨_, rfl⟩
      have e3 : Hid (V3.heap.size = V1.heap.size + 1 + 1) := Lib.hid (by rw [← hV3, ← e2.out]; simp)
      rw [hV3] at HYN ⊢; clear hV3 HG2
      go_upto_region 14 with (first | ((with_reducible apply wpList_build_zg); exact rfl; exact rfl) | ((with_reducible apply wpList_store_cgnew (c := zg)); exact rfl; exact rfl; exact rfl; exact rfl))
      obtain ⟨V4, hV4⟩ : ∃ V4, V3.alloc (.cells zg.cells 42) = V4 := ⟨_, rfl⟩
      have e4 : Hid (V4.heap.size = V1.heap.size + 1 + 1 + 1) := Lib.hid (by rw [← hV4, ← e3.out]; simp)
      rw [hV4] at HYN ⊢; clear hV4
      go_upto_region 15 with (first | ((with_reducible apply wpList_build_zg); exact rfl; exact rfl) | ((with_reducible apply wpList_store_cgnew (c := zg)); exact rfl; exact rfl; exact rfl; exact rfl))
      obtain ⟨V5, hV5⟩ : ∃ V5, V4.alloc (.cells zg.cells 42) = V5 := ⟨_, rfl⟩
      rw [hV5] at HYN ⊢; clear hV5
      rw [← e4.out, ← e3.out, ← e2.out] at HYN
      generalize V4.heap.size = r14 at *
      generalize V3.heap.size = r13 at *
      generalize V2.heap.size = q12 at *
      generalize V1.heap.size = q11 at *
      clear e2 e3 e4 HX1 HD1
      have HYS := HYN; clear HYN
      have kk := HYS.out.dd.k0
      go_upto_block 2 with fail
      clear kk
      go_cut [15, 16] from 31 to 173 (fun s15 s16 wx => ∃ (d : Bk) (v : U) (o2 p2 : Option Addr) (s2 t2 : Sl) (x z : Cg) (e f : Int), s15 = .int .i64 e ∧ s16 = .int .i64 f ∧ YS w wx w.heap.size q7 q8 q11 q12 r13 r14 g9 c b d o p o2 p2 u v s t s2 t2 x z y ∧ Res2 b u j d v x z e f)
      case first =>
        have HD := Lib.hid HYS.out.dd; have HG := Lib.hid HYS.out.xs.bk
        have k9 := HD.out.k9; have k10 := HD.out.k10; have HX := Lib.hid HD.out.x; have HCH := Lib.hid HD.out.ch
        clear HD
        have hj1 : j ≤ 100 := by omega
        have HUOK := Lib.hid (HTIE.out.uok hj1)
        have HJ1 := Lib.hid hj1; clear hj1
        by_cases hk : y.kind = 1 ∨ y.kind = 2
        · obtain ⟨t1, t2, d1, d2, q1, q2, ht⟩ : ∃ t1 t2 : Bool, decide (y.kind = 1) = t1 ∧ decide (y.kind = 2) = t2 ∧ (y.kind == 1) = t1 ∧ (y.kind == 2) = t2 ∧ (t1 || t2) = true := ⟨_, _, rfl, rfl, rfl, rfl, by simpa using hk⟩
          have HT := Lib.hid ht; clear ht hk
          have HRES0 : Both b u j (placeB b y.x y.n y.m) (placeU u y.x y.n y.m) := place_both HTIE.out HJ1.out
          have C1 := Lib.hid ((fun (W : World) (hb : BAt W b o p) => placeBk_any (x := y.x) (n := y.n) (m := y.m) hb HTIE.out.ok) _ HYS.out.xs.at_)
          have C2 := Lib.hid (fun (W9 : World) (hu9 : UAt W9 u s t) => placeU_any (x := y.x) (n := y.n) (m := y.m) hu9 HUOK.out)
          generalize (placeB b y.x y.n y.m) = rr at *
          generalize (placeU u y.x y.n y.m) = rr2 at *
          obtain ⟨d, x, e⟩ := rr
          obtain ⟨v, z, f⟩ := rr2
          have HRES : Hid (Res2 b u j d v x z e f) := Lib.hid (Res2.of HRES0)
          clear HRES0
          cases t1 <;> cases t2
          case false.false => exact absurd HT.out (by decide)
          case true.true => exact absurd ((of_decide_eq_true d1).symm.trans (of_decide_eq_true d2)) (by decide)
          all_goals
            as_aux_lemma =>
              go_wp2_with (first | ((with_reducible apply wpList_load_bk (h := HG.out)); exact rfl; exact rfl; exact rfl) | ((with_reducible apply wpList_load_kpart (c := y.x) (h := HX.out)); exact rfl; exact rfl; exact rfl))
              with_reducible refine C1.out.mono ?_
              rintro e0 w6 ⟨o6, p6, rfl, ha6, hb6⟩
              have ha6 : BAt w6 d o6 p6 := ha6
              have H6 := Lib.hid (HYS.out.step hb6)
              have HQ := Lib.hid H6.out.dk
              have H7 := Lib.hid (H6.out.put_dk ha6)
              have HR := Lib.hid H7.out.ck
              have H8 := Lib.hid (H7.out.put_ck x)
              clear HYS HG HX HCH k9 k10 hb6 ha6 H6 H7 C1
              go_upto_region 23 with (first | ((with_reducible apply wpList_store_bk (b := d) (s := o6) (t := p6) (hq := HQ.out)); exact rfl; exact rfl; exact rfl; exact rfl) | ((with_reducible apply wpList_store_cg (c := x) (hq := HR.out)); exact rfl; exact rfl; exact rfl; exact rfl))
              obtain ⟨w7, hw7⟩ : ∃ y9, (w6.setRow q11 (d.cells o6 p6)).setRow r13 x.cells = y9 := ⟨_, rfl⟩
              rw [hw7] at H8 ⊢; clear hw7 HQ HR
              have C3 := Lib.hid (C2.out w7 H8.out.xs.ua)
              have HG := Lib.hid H8.out.xs.uk; have HD := Lib.hid H8.out.dd
              have k9 := HD.out.k9; have k10 := HD.out.k10; have HX := Lib.hid HD.out.x; have HCH := Lib.hid HD.out.ch
              go_wp2_with (first | ((with_reducible apply wpList_load_uk (h := HG.out)); exact rfl; exact rfl; exact rfl) | ((with_reducible apply wpList_load_kpart (c := y.x) (h := HX.out)); exact rfl; exact rfl; exact rfl))
              with_reducible refine C3.out.mono ?_
              rintro e0 w8 ⟨o8, p8, rfl, ha8, hb8⟩
              have ha8 : UAt w8 v o8 p8 := ha8
              have H9 := Lib.hid (H8.out.step hb8)
              have HQ := Lib.hid H9.out.vk
              have H10 := Lib.hid (H9.out.put_vk ha8)
              have HR := Lib.hid H10.out.wk
              have H11 := Lib.hid (H10.out.put_wk z)
              clear HG HD HX HCH k9 k10 hb8 ha8 H8 H9 H10 C3 C2
              go_wp2_with (first | ((with_reducible apply wpList_store_uk (b := v) (s := o8) (t := p8) (hq := HQ.out)); exact rfl; exact rfl; exact rfl; exact rfl) | ((with_reducible apply wpList_store_cg (c := z) (hq := HR.out)); exact rfl; exact rfl; exact rfl; exact rfl))
              go_meet
              exact ⟨d, v, o6, p6, o8, p8, x, z, e, f, rfl, rfl, H11.out, HRES.out⟩
        · have d1 : decide (y.kind = 1) = false := by simp; omega
          have d2 : decide (y.kind = 2) = false := by simp; omega
          have q1 : (y.kind == 1) = false := by simp; omega
          have q2 : (y.kind == 2) = false := by simp; omega
          clear hk
          by_cases h3 : y.kind = 3
          · have d3 : decide (y.kind = 3) = true := by simpa using h3
            have q3 : (y.kind == 3) = true := by simpa using h3
            clear h3
            have HRES0 : Both b u j (cancelB b y.n y.m) (cancelU u y.n y.m) := cancel_both HTIE.out HJ1.out
            have C1 := Lib.hid ((fun (W : World) (hb : BAt W b o p) => cancelBk_any y.n y.m hb HTIE.out.ok) _ HYS.out.xs.at_)
            have C2 := Lib.hid (fun (W9 : World) (hu9 : UAt W9 u s t) => cancelU_any (i := y.n) (n := y.m) hu9 HUOK.out)
            generalize (cancelB b y.n y.m) = rr at *
            generalize (cancelU u y.n y.m) = rr2 at *
            obtain ⟨d, x, e⟩ := rr
            obtain ⟨v, z, f⟩ := rr2
            have HRES : Hid (Res2 b u j d v x z e f) := Lib.hid (Res2.of HRES0)
            clear HRES0
            as_aux_lemma =>
              go_wp2_with (first | ((with_reducible apply wpList_load_bk (h := HG.out)); exact rfl; exact rfl; exact rfl) | fail)
              with_reducible refine C1.out.mono ?_
              rintro e0 w6 ⟨o6, p6, rfl, ha6, hb6⟩
              have ha6 : BAt w6 d o6 p6 := ha6
              have H6 := Lib.hid (HYS.out.step hb6)
              have HQ := Lib.hid H6.out.dk
              have H7 := Lib.hid (H6.out.put_dk ha6)
              have HR := Lib.hid H7.out.ck
              have H8 := Lib.hid (H7.out.put_ck x)
              clear HYS HG HX HCH k9 k10 hb6 ha6 H6 H7 C1
              go_upto_region 26 with (first | ((with_reducible apply wpList_store_bk (b := d) (s := o6) (t := p6) (hq := HQ.out)); exact rfl; exact rfl; exact rfl; exact rfl) | ((with_reducible apply wpList_store_cg (c := x) (hq := HR.out)); exact rfl; exact rfl; exact rfl; exact rfl))
              obtain ⟨w7, hw7⟩ : ∃ y9, (w6.setRow q11 (d.cells o6 p6)).setRow r13 x.cells = y9 := ⟨_, rfl⟩
              rw [hw7] at H8 ⊢; clear hw7 HQ HR
              have C3 := Lib.hid (C2.out w7 H8.out.xs.ua)
              have HG := Lib.hid H8.out.xs.uk; have HD := Lib.hid H8.out.dd
              have k9 := HD.out.k9; have k10 := HD.out.k10; have HX := Lib.hid HD.out.x; have HCH := Lib.hid HD.out.ch
              go_wp2_with (first | ((with_reducible apply wpList_load_uk (h := HG.out)); exact rfl; exact rfl; exact rfl) | fail)
              with_reducible refine C3.out.mono ?_
              rintro e0 w8 ⟨o8, p8, rfl, ha8, hb8⟩
              have ha8 : UAt w8 v o8 p8 := ha8
              have H9 := Lib.hid (H8.out.step hb8)
              have HQ := Lib.hid H9.out.vk
              have H10 := Lib.hid (H9.out.put_vk ha8)
              have HR := Lib.hid H10.out.wk
              have H11 := Lib.hid (H10.out.put_wk z)
              clear HG HD HX HCH k9 k10 hb8 ha8 H8 H9 H10 C3 C2
              go_wp2_with (first | ((with_reducible apply wpList_store_uk (b := v) (s := o8) (t := p8) (hq := HQ.out)); exact rfl; exact rfl; exact rfl; exact rfl) | ((with_reducible apply wpList_store_cg (c := z) (hq := HR.out)); exact rfl; exact rfl; exact rfl; exact rfl))
              go_meet
              exact ⟨d, v, o6, p6, o8, p8, x, z, e, f, rfl, rfl, H11.out, HRES.out⟩
          · have d3 : decide (y.kind = 3) = false := by simpa using h3
            have q3 : (y.kind == 3) = false := by simpa using h3
            clear h3
            by_cases h4 : y.kind = 4
            · have d4 : decide (y.kind = 4) = true := by simpa using h4
              have q4 : (y.kind == 4) = true := by simpa using h4
              clear h4
              have HRES0 : Both b u j (setB b y.n y.m) (setU u y.n y.m) := set_both HTIE.out HJ1.out
              have C1 := Lib.hid ((fun (W : World) (hb : BAt W b o p) => setBk_any y.n y.m hb HTIE.out.ok) _ HYS.out.xs.at_)
              have C2 := Lib.hid (fun (W9 : World) (hu9 : UAt W9 u s t) => setU_any (n := y.n) (m := y.m) hu9 HUOK.out)
              generalize (setB b y.n y.m) = rr at *
              generalize (setU u y.n y.m) = rr2 at *
              obtain ⟨d, x, e⟩ := rr
              obtain ⟨v, z, f⟩ := rr2
              have HRES : Hid (Res2 b u j d v x z e f) := Lib.hid (Res2.of HRES0)
              clear HRES0
              as_aux_lemma =>
                go_wp2_with (first | ((with_reducible apply wpList_load_bk (h := HG.out)); exact rfl; exact rfl; exact rfl) | fail)
                with_reducible refine C1.out.mono ?_
                rintro e0 w6 ⟨o6, p6, rfl, ha6, hb6⟩
                have ha6 : BAt w6 d o6 p6 := ha6
                have H6 := Lib.hid (HYS.out.step hb6)
                have HQ := Lib.hid H6.out.dk
                have H7 := Lib.hid (H6.out.put_dk ha6)
                have HR := Lib.hid H7.out.ck
                have H8 := Lib.hid (H7.out.put_ck x)
                clear HYS HG HX HCH k9 k10 hb6 ha6 H6 H7 C1
                go_upto_region 29 with (first | ((with_reducible apply wpList_store_bk (b := d) (s := o6) (t := p6) (hq := HQ.out)); exact rfl; exact rfl; exact rfl; exact rfl) | ((with_reducible apply wpList_store_cg (c := x) (hq := HR.out)); exact rfl; exact rfl; exact rfl; exact rfl))
                obtain ⟨w7, hw7⟩ : ∃ y9, (w6.setRow q11 (d.cells o6 p6)).setRow r13 x.cells = y9 := ⟨_, rfl⟩
                rw [hw7] at H8 ⊢; clear hw7 HQ HR
                have C3 := Lib.hid (C2.out w7 H8.out.xs.ua)
                have HG := Lib.hid H8.out.xs.uk; have HD := Lib.hid H8.out.dd
                have k9 := HD.out.k9; have k10 := HD.out.k10; have HX := Lib.hid HD.out.x; have HCH := Lib.hid HD.out.ch
                go_wp2_with (first | ((with_reducible apply wpList_load_uk (h := HG.out)); exact rfl; exact rfl; exact rfl) | fail)
                with_reducible refine C3.out.mono ?_
                rintro e0 w8 ⟨o8, p8, rfl, ha8, hb8⟩
                have ha8 : UAt w8 v o8 p8 := ha8
                have H9 := Lib.hid (H8.out.step hb8)
                have HQ := Lib.hid H9.out.vk
                have H10 := Lib.hid (H9.out.put_vk ha8)
                have HR := Lib.hid H10.out.wk
                have H11 := Lib.hid (H10.out.put_wk z)
                clear HG HD HX HCH k9 k10 hb8 ha8 H8 H9 H10 C3 C2
                go_wp2_with (first | ((with_reducible apply wpList_store_uk (b := v) (s := o8) (t := p8) (hq := HQ.out)); exact rfl; exact rfl; exact rfl; exact rfl) | ((with_reducible apply wpList_store_cg (c := z) (hq := HR.out)); exact rfl; exact rfl; exact rfl; exact rfl))
                go_meet
                exact ⟨d, v, o6, p6, o8, p8, x, z, e, f, rfl, rfl, H11.out, HRES.out⟩
            · have d4 : decide (y.kind = 4) = false := by simpa using h4
              have q4 : (y.kind == 4) = false := by simpa using h4
              clear h4
              have HRES0 := apply_both HTIE.out HJ1.out HYR.out
              have C1 := Lib.hid (applyBk_any (x := y.ch) HYS.out.xs.at_ HTIE.out.ok)
              have C2 := Lib.hid (fun (W9 : World) (hu9 : UAt W9 u s t) => applyU_any (x := y.ch) hu9 HUOK.out)
              generalize applyB b y.ch = rr at *
              generalize applyU u y.ch = rr2 at *
              obtain ⟨d, e⟩ := rr
              obtain ⟨v, f⟩ := rr2
              have HRES : Hid (Res2 b u j d v zg zg e f) := Lib.hid (Res2.ofA HRES0)
              clear HRES0
              as_aux_lemma =>
                go_wp2_with (first | ((with_reducible apply wpList_load_bk (h := HG.out)); exact rfl; exact rfl; exact rfl) | ((with_reducible apply wpList_load_cgp (c := y.ch) (h := HCH.out)); exact rfl; exact rfl; exact rfl))
                with_reducible refine C1.out.mono ?_
                rintro e0 w6 ⟨o6, p6, rfl, ha6, hb6⟩
                have ha6 : BAt w6 d o6 p6 := ha6
                have H6 := Lib.hid (HYS.out.step hb6)
                have HQ := Lib.hid H6.out.dk
                have H8 := Lib.hid (H6.out.put_dk ha6)
                clear HYS HG HX HCH k9 k10 hb6 ha6 H6 C1
                go_upto_region 19 with ((with_reducible apply wpList_store_bk (b := d) (s := o6) (t := p6) (hq := HQ.out)); exact rfl; exact rfl; exact rfl; exact rfl)
                obtain ⟨w7, hw7⟩ : ∃ y9, w6.setRow q11 (d.cells o6 p6) = y9 := ⟨_, rfl⟩
                rw [hw7] at H8 ⊢; clear hw7 HQ
                have C3 := Lib.hid (C2.out w7 H8.out.xs.ua)
                have HG := Lib.hid H8.out.xs.uk; have HD := Lib.hid H8.out.dd
                have HCH := Lib.hid HD.out.ch
                go_wp2_with (first | ((with_reducible apply wpList_load_uk (h := HG.out)); exact rfl; exact rfl; exact rfl) | ((with_reducible apply wpList_load_cgp (c := y.ch) (h := HCH.out)); exact rfl; exact rfl; exact rfl))
                with_reducible refine C3.out.mono ?_
                rintro e0 w8 ⟨o8, p8, rfl, ha8, hb8⟩
                have ha8 : UAt w8 v o8 p8 := ha8
                have H9 := Lib.hid (H8.out.step hb8)
                have HQ := Lib.hid H9.out.vk
                have H11 := Lib.hid (H9.out.put_vk ha8)
                clear HG HD HCH hb8 ha8 H8 H9 C3 C2
                go_wp2_with ((with_reducible apply wpList_store_uk (b := v) (s := o8) (t := p8) (hq := HQ.out)); exact rfl; exact rfl; exact rfl; exact rfl)
                go_meet
                exact ⟨d, v, o6, p6, o8, p8, zg, zg, e, f, rfl, rfl, H11.out, HRES.out⟩
      case rest =>
        obtain ⟨d, v, o2, p2, s2, t2, x, z, e, f, rfl, rfl, hys2, hres⟩ := hcut
        clear HYS
        have HYS := Lib.hid hys2; have HRES := Lib.hid hres; clear hys2
        obtain rfl := hres.eqx
        obtain rfl := hres.eqe
        clear hres
        have HCK := Lib.hid HYS.out.ck; have HWK := Lib.hid HYS.out.wk; have HDK := Lib.hid HYS.out.dk; have HVK := Lib.hid HYS.out.vk
        have HB := Lib.hid (show (!x.beq x) = false by rw [Cg.beq_self]; rfl)
        have n0 : (e != e) = false := by simp
        have CAL := Lib.hid (alike_any HYS.out.da HYS.out.va HRES.out.rel)
        go_wp2_with (first | ((with_reducible apply wpList_load_cg (h := HCK.out)); exact rfl; exact rfl; exact rfl) | ((with_reducible apply wpList_load_cg (h := HWK.out)); exact rfl; exact rfl; exact rfl) | ((with_reducible apply wpList_neq_cg (c := x) (d := x) (hb := HB.out)); exact rfl; exact rfl; exact rfl; exact rfl) | ((with_reducible apply wpList_load_bk (h := HDK.out)); exact rfl; exact rfl; exact rfl) | ((with_reducible apply wpList_load_uk (h := HVK.out)); exact rfl; exact rfl; exact rfl))
        with_reducible refine CAL.out.mono ?_
        rintro e0 V6 ⟨rfl, hb6⟩
        have HY6 := Lib.hid (HYS.out.step hb6)
        clear HYS HCK HWK HDK HVK HB n0 CAL hb6
        by_cases he : e = 0
        · have d0 : decide (e = 0) = true := by simpa using he
          have q0 : (e == 0) = true := by simpa using he
          have HT9 := Lib.hid (HRES.out.tie he)
          have HDK := Lib.hid HY6.out.dk; have HB7 := Lib.hid HY6.out.xs.bk
          have H7 := Lib.hid (HY6.out.put_bk HY6.out.da)
          clear he HRES
          go_upto_region 34 with (first | ((with_reducible apply wpList_load_bk (h := HDK.out)); exact rfl; exact rfl; exact rfl) | ((with_reducible apply wpList_store_bk (b := d) (s := o2) (t := p2) (hq := HB7.out)); exact rfl; exact rfl; exact rfl; exact rfl))
          obtain ⟨V7a, hV⟩ : ∃ y9, V6.setRow q7 (d.cells o2 p2) = y9 := ⟨_, rfl⟩
          rw [hV] at H7 ⊢; clear hV HDK HB7 HY6
          have HVK := Lib.hid H7.out.vk; have HU8 := Lib.hid H7.out.xs.uk
          have H8 := Lib.hid (H7.out.put_uk H7.out.va)
          go_upto_region 35 with (first | ((with_reducible apply wpList_load_uk (h := HVK.out)); exact rfl; exact rfl; exact rfl) | ((with_reducible apply wpList_store_uk (b := v) (s := s2) (t := t2) (hq := HU8.out)); exact rfl; exact rfl; exact rfl; exact rfl))
          obtain ⟨V7b, hV⟩ : ∃ y9, V7a.setRow q8 (v.cells s2 t2) = y9 := ⟨_, rfl⟩
          rw [hV] at H8 ⊢; clear hV HVK HU8 H7 d0 q0
          have HXA := Lib.hid H8.out.xs; clear H8 HTIE
          have HTB := HXA
          have CF1 := Lib.hid (findB_any id HTB.out.at_)
          have CF2 := Lib.hid (fun (W9 : World) (hu9 : UAt W9 v s2 t2) => findU_any id hu9 (by have := HT9.out.ul; have := HJ.out; omega) (by have := HT9.out.ud; have := HJ.out; omega))
          have hfs := find_same HT9.out id
          rw [hfs] at CF1
          generalize findU v id = rf at *
          clear hfs
          obtain ⟨kf, tf, hkf, htf⟩ : ∃ (kf : K) (tf : Bool), rf.getD zk = kf ∧ rf.isSome = tf := ⟨_, _, rfl, rfl⟩
          have CF1 : Hid (Calls Tryz.prog 17 #[d.V o2 p2, .int .i64 id] V7b fun e w9 => e = .returned (.tuple #[kf.V, .bool tf]) ∧ Below V7b.heap.size V7b w9) := Lib.hid (by rw [← hkf, ← htf]; exact CF1.out)
          have CF2 : Hid (∀ (W9 : World), UAt W9 v s2 t2 → Calls Tryz.prog 18 #[v.V s2 t2, .int .i64 id] W9 fun e w9 => e = .returned (.tuple #[kf.V, .bool tf]) ∧ Below W9.heap.size W9 w9) := Lib.hid (fun W9 h9 => by rw [← hkf, ← htf]; exact CF2.out W9 h9)
          clear hkf htf
          have HGB := Lib.hid HTB.out.bk
          go_upto_region 36 with (first | ((with_reducible apply wpList_load_bk (h := HGB.out)); exact rfl; exact rfl; exact rfl) | (go_at_call 17; (with_reducible refine CF1.out.mono ?_); rintro e0 V7 ⟨rfl, hb7⟩) | ((with_reducible apply wpList_store_knew (c := kf)); exact rfl; exact rfl; exact rfl; exact rfl))
          have hb8 := hb7.trans ((below_new V7 (.cells kf.cells 40)).mono hb7.size)
          have HX8 := Lib.hid (HTB.out.step hb8); have HKA := Lib.hid (KAt.new V7 kf)
          obtain ⟨V8, hV8⟩ : ∃ y9, V7.alloc (.cells kf.cells 40) = y9 := ⟨_, rfl⟩
          rw [hV8] at HX8 HKA ⊢; clear hV8 hb7 hb8 HTB HGB CF1
          generalize V7.heap.size = f17 at HKA ⊢
          have HGU := Lib.hid HX8.out.uk
          have CF3 := Lib.hid (CF2.out _ HX8.out.ua)
          go_upto_region 37 with (first | ((with_reducible apply wpList_load_uk (h := HGU.out)); exact rfl; exact rfl; exact rfl) | (go_at_call 18; (with_reducible refine CF3.out.mono ?_); rintro e0 V9 ⟨rfl, hb9⟩) | ((with_reducible apply wpList_store_knew (c := kf)); exact rfl; exact rfl; exact rfl; exact rfl))
          have hb10 := hb9.trans ((below_new V9 (.cells kf.cells 40)).mono hb9.size)
          have HX10 := Lib.hid (HX8.out.step hb10); have HKA2 := Lib.hid (HKA.out.step hb10); have HKB := Lib.hid (KAt.new V9 kf)
          obtain ⟨V10, hV10⟩ : ∃ y9, V9.alloc (.cells kf.cells 40) = y9 := ⟨_, rfl⟩
          rw [hV10] at HX10 HKA2 HKB ⊢; clear hV10 hb9 hb10 HX8 HGU CF2 CF3 HKA
          generalize V9.heap.size = f19 at HKB ⊢
          have HBK2 := Lib.hid (show (!kf.beq kf) = false by rw [K.beq_self]; rfl)
          have nt : (tf != tf) = false := by simp
          cases tf
          all_goals
            go_wp2_with (first | ((with_reducible apply wpList_load_kat (h := HKA2.out)); exact rfl; exact rfl; exact rfl) | ((with_reducible apply wpList_load_kat (h := HKB.out)); exact rfl; exact rfl; exact rfl) | ((with_reducible apply wpList_neq_kat (c := kf) (d := kf) (hb := HBK2.out)); exact rfl; exact rfl; exact rfl; exact rfl))
            go_roundg (N - (j + 1))
            case measure => have := HG0.out; have := HJ.out; omega
            case rel => exact ⟨j + 1, d, o2, p2, v, s2, t2, by have := HJ.out; omega, by have := HJ.out; omega, rfl, by have := HJ.out; have := HL.out; first | rfl | (rw [IntWalk.wrap64_in _ (by omega)]; rfl), HX10.out, HT9.out⟩
        · have d0 : decide (e = 0) = false := by simpa using he
          have q0 : (e == 0) = false := by simpa using he
          have HT9 := Lib.hid (HTIE.out.mono (Nat.le_succ j))
          clear he HRES
          have HXA := Lib.hid HY6.out.xs; clear HY6 HTIE
          go_upto_region 35 with fail
          clear d0 q0
          have HTB := HXA
          have CF1 := Lib.hid (findB_any id HTB.out.at_)
          have CF2 := Lib.hid (fun (W9 : World) (hu9 : UAt W9 u s t) => findU_any id hu9 (by have := HT9.out.ul; have := HJ.out; omega) (by have := HT9.out.ud; have := HJ.out; omega))
          have hfs := find_same HT9.out id
          rw [hfs] at CF1
          generalize findU u id = rf at *
          clear hfs
          obtain ⟨kf, tf, hkf, htf⟩ : ∃ (kf : K) (tf : Bool), rf.getD zk = kf ∧ rf.isSome = tf := ⟨_, _, rfl, rfl⟩
          have CF1 : Hid (Calls Tryz.prog 17 #[b.V o p, .int .i64 id] V6 fun e w9 => e = .returned (.tuple #[kf.V, .bool tf]) ∧ Below V6.heap.size V6 w9) := Lib.hid (by rw [← hkf, ← htf]; exact CF1.out)
          have CF2 : Hid (∀ (W9 : World), UAt W9 u s t → Calls Tryz.prog 18 #[u.V s t, .int .i64 id] W9 fun e w9 => e = .returned (.tuple #[kf.V, .bool tf]) ∧ Below W9.heap.size W9 w9) := Lib.hid (fun W9 h9 => by rw [← hkf, ← htf]; exact CF2.out W9 h9)
          clear hkf htf
          have HGB := Lib.hid HTB.out.bk
          go_upto_region 36 with (first | ((with_reducible apply wpList_load_bk (h := HGB.out)); exact rfl; exact rfl; exact rfl) | (go_at_call 17; (with_reducible refine CF1.out.mono ?_); rintro e0 V7 ⟨rfl, hb7⟩) | ((with_reducible apply wpList_store_knew (c := kf)); exact rfl; exact rfl; exact rfl; exact rfl))
          have hb8 := hb7.trans ((below_new V7 (.cells kf.cells 40)).mono hb7.size)
          have HX8 := Lib.hid (HTB.out.step hb8); have HKA := Lib.hid (KAt.new V7 kf)
          obtain ⟨V8, hV8⟩ : ∃ y9, V7.alloc (.cells kf.cells 40) = y9 := ⟨_, rfl⟩
          rw [hV8] at HX8 HKA ⊢; clear hV8 hb7 hb8 HTB HGB CF1
          generalize V7.heap.size = f17 at HKA ⊢
          have HGU := Lib.hid HX8.out.uk
          have CF3 := Lib.hid (CF2.out _ HX8.out.ua)
          go_upto_region 37 with (first | ((with_reducible apply wpList_load_uk (h := HGU.out)); exact rfl; exact rfl; exact rfl) | (go_at_call 18; (with_reducible refine CF3.out.mono ?_); rintro e0 V9 ⟨rfl, hb9⟩) | ((with_reducible apply wpList_store_knew (c := kf)); exact rfl; exact rfl; exact rfl; exact rfl))
          have hb10 := hb9.trans ((below_new V9 (.cells kf.cells 40)).mono hb9.size)
          have HX10 := Lib.hid (HX8.out.step hb10); have HKA2 := Lib.hid (HKA.out.step hb10); have HKB := Lib.hid (KAt.new V9 kf)
          obtain ⟨V10, hV10⟩ : ∃ y9, V9.alloc (.cells kf.cells 40) = y9 := ⟨_, rfl⟩
          rw [hV10] at HX10 HKA2 HKB ⊢; clear hV10 hb9 hb10 HX8 HGU CF2 CF3 HKA
          generalize V9.heap.size = f19 at HKB ⊢
          have HBK2 := Lib.hid (show (!kf.beq kf) = false by rw [K.beq_self]; rfl)
          have nt : (tf != tf) = false := by simp
          cases tf
          all_goals
            go_wp2_with (first | ((with_reducible apply wpList_load_kat (h := HKA2.out)); exact rfl; exact rfl; exact rfl) | ((with_reducible apply wpList_load_kat (h := HKB.out)); exact rfl; exact rfl; exact rfl) | ((with_reducible apply wpList_neq_kat (c := kf) (d := kf) (hb := HBK2.out)); exact rfl; exact rfl; exact rfl; exact rfl))
            go_roundg (N - (j + 1))
            case measure => have := HG0.out; have := HJ.out; omega
            case rel => exact ⟨j + 1, b, o, p, u, s, t, by have := HJ.out; omega, by have := HJ.out; omega, rfl, by have := HJ.out; have := HL.out; first | rfl | (rw [IntWalk.wrap64_in _ (by omega)]; rfl), HX10.out, HT9.out⟩
    · have hx : (j < N ∧ ¬ j < 60) ∨ ¬ j < N := by omega
      have HBEL := Lib.hid HXS.out.bel
      clear HG0 HA hlt HXS HTIE
      rcases hx with ⟨h1, h2⟩ | h1
      · have b3 : (j : Int) < (N : Int) := by omega
        have b6 : ¬ (j : Int) < 60 := by omega
        clear h1 h2 hj hj60
        go_wp2_with fail
        go_ret
        exact ⟨rfl, HBEL.out⟩
      · have b3 : ¬ (j : Int) < (N : Int) := by omega
        clear h1 hj hj60
        go_wp2_with fail
        go_ret
        exact ⟨rfl, HBEL.out⟩
end Go.Proofs.YtodacdooooeofaaGreat
/- BookExact: the statement's frame asks this. -/
namespace Go.Proofs.YtodacdooooeofaaGreat
open Go.RowKit Go.Lib
set_option linter.unusedVariables false
theorem bookExact_walk (c : Cfg) (A : Option Addr) (cap : Nat) (ds : List Dd) (id : Int) (w : World) (hO : ∀ y ∈ ds, inI64 y.ch.ix) (hA : DdsAt w w.heap.size A ds) (hl : ds.length ≤ maxLen) (hi : inI64 id) : Calls Tryz.prog 3 #[c.V, .slice A ds.length cap, .int .i64 id] w (Yes w true) :=
  exact_walk c A cap id ds w hA hl hO
end Go.Proofs.YtodacdooooeofaaGreat
