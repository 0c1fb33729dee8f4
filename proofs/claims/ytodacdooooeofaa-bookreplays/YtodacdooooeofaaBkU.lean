/- Its changes make a book: the walk. -/
import Derived.Test.YtodacdooooeofaaBkW
import Derived.Deep.CutBlock
namespace Go.Proofs.Ytodacdooooeofaa
open Go.RowKit Go.Lib
open Sh.Plain (KV put del Rise)
set_option linter.unusedVariables false
set_option linter.unusedSimpArgs false

theorem made_map (W : World) : (Instr.makeMap 35 none).run Try.prog W = .ok (.map (some W.heap.size)) (W.alloc (.map #[] 0)) := by
  simp [Instr.makeMap, run_underlying Try.underlying35, Sem.run_bind]
set_option maxRecDepth 100000 in
set_option maxHeartbeats 8000000 in
theorem replays_walk (c : Cfg) (A : Option Addr) (cap : Nat) (ds : List Dd) (w : World) (hA : DdsAt w w.heap.size A ds) (hl : ds.length ≤ maxLen) : Calls Try.prog 3 #[c.V, .slice A ds.length cap] w (Yes w true) := by
  have H := Lib.hid (new1 w c.cells 24)
  have HA := Lib.hid hA; clear hA
  have HL : Hid (ds.length ≤ 9223372036854775807) := Lib.hid (by unfold maxLen at hl; omega)
  clear hl
  obtain ⟨N, hN⟩ : ∃ N, ds.length = N := ⟨_, rfl⟩
  rw [hN] at HL ⊢
  have HN := Lib.hid hN; clear hN
  have CA := Lib.hid awake_any
  have CN := Lib.hid (newBook_any c)
  have hmm := made_map
  go_enter Try.func3, Try.ntmps3
  go_upto_region 1 with fail
  obtain ⟨W, hW⟩ : ∃ W, w.alloc (.cells c.cells 24) = W := ⟨_, rfl⟩
  rw [hW] at H ⊢; clear hW
  go_upto_region 3 with (go_at_call 5; (with_reducible refine (CA.out _).mono ?_); rintro e W1 ⟨rfl, hb1⟩)
  have HC : Hid (CAt W1 w.heap.size c) := Lib.hid (At.step H.out.2 hb1)
  have HB := Lib.hid (H.out.1.trans (hb1.mono H.out.1.size)); clear H CA hb1
  go_upto_region 4 with (first | ((with_reducible apply wpList_load_cat (h := HC.out)); exact rfl; exact rfl; exact rfl) | (go_at_call 6; (with_reducible refine (CN.out _).mono ?_); rintro e v0 ⟨o0, p0, rfl, ha0, hb0⟩) | ((with_reducible apply wpList_store_bknew (b := newB c) (s := o0) (t := p0)); exact rfl; exact rfl; exact rfl; exact rfl))
  have hbn := below_new v0 (.cells ((newB c).cells o0 p0) 32)
  have hk0 := At.new v0 32 ((newB c).cells o0 p0)
  have hc0 := At.step (At.step HC.out hb0) hbn
  have hB0 := HB.out.trans ((hb0.trans (hbn.mono hb0.size)).mono HB.out.size)
  have ha1 := BAt.step ha0 hbn
  have lq : w.heap.size ≤ v0.heap.size := Nat.le_trans HB.out.size hb0.size
  obtain ⟨W2, hW⟩ : ∃ W2, v0.alloc (.cells ((newB c).cells o0 p0) 32) = W2 := ⟨_, rfl⟩
  rw [hW] at hbn hk0 hc0 hB0 ha1 ⊢; clear hW
  go_upto_region 6 with fail
  obtain ⟨W3, hW⟩ : ∃ W3, (W2.alloc (.cells #[] 39)).alloc (.map #[] 0) = W3 := ⟨_, rfl⟩
  have hrs : RS w ((W2.alloc (.cells #[] 39)).alloc (.map #[] 0)) w.heap.size v0.heap.size (W2.heap.size + 1) c (newB c) o0 p0 (.slice (some ⟨W2.heap.size, 0, none⟩) 0 0) [] (fun _ => false) := by
    have b1 := below_new W2 (.cells #[] 39)
    have b2 := below_new (W2.alloc (.cells #[] 39)) (.map #[] 0)
    have b12 := b1.trans (b2.mono b1.size)
    have e1 : (W2.alloc (.cells #[] 39)).heap.size = W2.heap.size + 1 := by simp
    have hm := EAt.new (W2.alloc (.cells #[] 39))
    rw [e1] at hm
    exact ⟨hB0.trans (b12.mono hB0.size), At.step hc0 b12, At.step hk0 b12, BAt.step ha1 b12, (Sh.Own.lit0 eG W2 hB0.size).below b2, hm, ⟨lq, by have := hB0.size; omega⟩⟩
  rw [hW] at hrs ⊢; clear hW hbn hk0 hc0 hB0 ha1 lq ha0 hb0 HB HC
  have HRS := Lib.hid hrs; clear hrs
  generalize W2.heap.size + 1 = mb at *
  generalize v0.heap.size = q at *
  generalize Value.slice (some ⟨W2.heap.size, 0, none⟩) 0 0 = rv0 at *
  have HRP := Lib.hid (RPl.new c)
  generalize hs0 : newB c = s0 at HRS
  have HS0 := Lib.hid hs0; clear hs0
  rw [HS0.out] at HRP
  go_wp2_with fail
  go_loopg [8, 6] N (fun gh s8 s6 wx => ∃ (j : Nat) (b : Bk) (o p : Option Addr) (rv : Value) (xs : List Cg) (F : Int → Bool), j ≤ N ∧ j ≤ 60 ∧ gh = N - j ∧ s8 = .int .i64 (j : Int) ∧ rv = s6 ∧ xs.length ≤ j ∧ RS w wx w.heap.size q mb c b o p rv xs F ∧ RPl c b xs F)
  case atStart => exact ⟨0, s0, o0, p0, rv0, [], _, Nat.zero_le _, by omega, rfl, rfl, rfl, Nat.le_refl _, HRS.out, HRP.out⟩
  case round =>
    obtain ⟨j, b, o, p, rv, xs, F, hj, hj60, hg, rfl, rfl, hxj, hrs, hrp⟩ := hrel
    have HG0 := Lib.hid hg; clear hg HRS HRP
    have HRS := Lib.hid hrs; have HRP := Lib.hid hrp; have HXJ := Lib.hid hxj; clear hrs hrp hxj
    have b4 : (0 : Int) ≤ (j : Int) := by omega
    by_cases hlt : j < N ∧ j < 60
    · obtain ⟨b1, o1, rfl, l1, k1⟩ := HA.out j (by rw [HN.out]; exact hlt.1)
      have b3 : (j : Int) < (N : Int) := by omega
      have b6 : (j : Int) < 60 := by omega
      have HJ := Lib.hid hlt; clear hlt
      have KR := Lib.hid (rng_below k1 l1 HRS.out.bel)
      clear k1 l1
      generalize ds.getD j zd = y at *
      -- the deed
      go_upto_region 10 with (first | ((with_reducible apply wpList_load_dd (y := y) (h := KR.out)); exact rfl; exact rfl; exact rfl) | ((with_reducible apply wpList_store_ddnew (c := y)); exact rfl; exact rfl; exact rfl; exact rfl))
      have bd := below_new wr (.cells y.cells 41)
      have HDD0 := At.new wr 41 y.cells
      obtain ⟨V1, hW⟩ : ∃ V1, wr.alloc (.cells y.cells 41) = V1 := ⟨_, rfl⟩
      rw [hW] at bd HDD0 ⊢; clear hW KR
      have HR1 := Lib.hid (HRS.out.step bd); have HD1 : Hid (DdAt V1 wr.heap.size y) := Lib.hid HDD0
      clear HRS bd HDD0
      generalize wr.heap.size = g9 at *
      -- its index
      have HG1 := Lib.hid HR1.out.bk
      have CI := Lib.hid (index_any b o p V1)
      go_upto_region 11 with (first | ((with_reducible apply wpList_load_bk (h := HG1.out)); exact rfl; exact rfl; exact rfl) | (go_at_call 7; (with_reducible refine CI.out.mono ?_); rintro e V2 ⟨rfl, hb2⟩))
      have HR2 := Lib.hid (HR1.out.step hb2); have HD2 := Lib.hid (HD1.out.step hb2)
      clear HR1 HD1 HG1 CI hb2
      -- how many live
      have HG2 := Lib.hid HR2.out.bk
      have CL := Lib.hid (live_any HR2.out.at_)
      go_wp2_with (first | ((with_reducible apply wpList_load_bk (h := HG2.out)); exact rfl; exact rfl; exact rfl) | (go_at_call 8; (with_reducible refine CL.out.mono ?_)))
      rintro e V3 ⟨vl, rfl, hol, hb3⟩
      obtain ⟨OL, cL, rfl⟩ : ∃ O c, vl = .slice O (b.live.map (·.2)).length c := rd_len hol.rd
      have HR3 := Lib.hid (HR2.out.step hb3); have HD3 := Lib.hid (HD2.out.step hb3)
      clear HR2 HD2 HG2 CL hb3 hol
      obtain ⟨nl, hnl⟩ : ∃ nl, (b.live.map (·.2)).length = nl := ⟨_, rfl⟩
      rw [hnl]
      have HNL := Lib.hid hnl; clear hnl
      have HG3 := Lib.hid HR3.out.bk
      go_upto_region 13 with (first | ((with_reducible apply wpList_load_bk (h := HG3.out)); exact rfl; exact rfl; exact rfl) | ((with_reducible apply wpList_store_bknew (b := b) (s := o) (t := p)); exact rfl; exact rfl; exact rfl; exact rfl))
      obtain ⟨V4, hV4⟩ : ∃ V4, V3.alloc (.cells (b.cells o p) 32) = V4 := ⟨_, rfl⟩
      have hus := US.new HR3.out HD3.out
      have e4 : V4.heap.size = V3.heap.size + 1 := by rw [← hV4]; simp
      rw [hV4, ← e4] at hus
      rw [hV4]; clear hV4 e4
      go_upto_region 14 with (first | ((with_reducible apply wpList_build_zg); exact rfl; exact rfl) | ((with_reducible apply wpList_store_cgnew (c := zg)); exact rfl; exact rfl; exact rfl; exact rfl))
      obtain ⟨V5, hV5⟩ : ∃ V5, V4.alloc (.cells zg.cells 39) = V5 := ⟨_, rfl⟩
      rw [hV5] at hus ⊢; clear hV5 HR3 HD3 HG3
      have HUS := Lib.hid hus; clear hus
      generalize V4.heap.size = r13 at *
      generalize V3.heap.size = q12 at *
      have kk := HUS.out.dd.k0
      go_upto_block 2 with fail
      clear kk
      go_cut [14] from 27 to 187 (fun s14 wx => ∃ (d : Bk) (o' p' : Option Addr) (x : Cg) (e : Int), s14 = .int .i64 e ∧ US w wx w.heap.size q mb q12 r13 g9 c b o p rv xs F d o' p' x y ∧ Res b d x e)
      case first =>
        have HD := Lib.hid HUS.out.dd; have HG := Lib.hid HUS.out.rs.bk
        have k9 := HD.out.k9; have k10 := HD.out.k10; have HX := Lib.hid HD.out.x; have HCH := Lib.hid HD.out.ch
        have CP := Lib.hid (fun (W : World) (hb : BAt W b o p) => placeBk_any (x := y.x) (n := y.n) (m := y.m) hb HRP.out.ok)
        have CC := Lib.hid (fun (W : World) (hb : BAt W b o p) => cancelBk_any y.n y.m hb HRP.out.ok)
        have CS := Lib.hid (fun (W : World) (hb : BAt W b o p) => setBk_any y.n y.m hb HRP.out.ok)
        have CY := Lib.hid (fun (W : World) (hb : BAt W b o p) => applyBk_any (x := y.ch) hb HRP.out.ok)
        by_cases hk : y.kind = 1 ∨ y.kind = 2
        · obtain ⟨t1, t2, d1, d2, q1, q2, ht⟩ : ∃ t1 t2 : Bool, decide (y.kind = 1) = t1 ∧ decide (y.kind = 2) = t2 ∧ (y.kind == 1) = t1 ∧ (y.kind == 2) = t2 ∧ (t1 || t2) = true := ⟨_, _, rfl, rfl, rfl, rfl, by simpa using hk⟩
          have HT := Lib.hid ht; clear ht hk
          have HRES : Hid (Res b (placeB b y.x y.n y.m).1 (placeB b y.x y.n y.m).2.1 (placeB b y.x y.n y.m).2.2) := Lib.hid (res_three rfl place_apply placeB_err)
          have C1 := Lib.hid (CP.out _ HUS.out.rs.at_)
          generalize placeB b y.x y.n y.m = rr at *
          obtain ⟨d, x, e⟩ := rr
          cases t1 <;> cases t2
          case false.false => exact absurd HT.out (by decide)
          case true.true => exact absurd ((of_decide_eq_true d1).symm.trans (of_decide_eq_true d2)) (by decide)
          all_goals
            as_aux_lemma =>
              go_wp2_with (first | ((with_reducible apply wpList_load_bk (h := HG.out)); exact rfl; exact rfl; exact rfl) | ((with_reducible apply wpList_load_kpart (c := y.x) (h := HX.out)); exact rfl; exact rfl; exact rfl) | (go_at_call 9; (with_reducible refine C1.out.mono ?_)))
              rintro e0 w6 ⟨o6, p6, rfl, ha6, hb6⟩
              have ha6 : BAt w6 d o6 p6 := ha6
              have H6 := Lib.hid (HUS.out.step hb6)
              have HQ := Lib.hid H6.out.dk
              have H7 := Lib.hid (H6.out.put12 ha6)
              have HR := Lib.hid H7.out.ck
              have H8 := Lib.hid (H7.out.put13 x)
              have HRES : Hid (Res b d x e) := HRES
              clear HUS HG HX HCH k9 k10 hb6 ha6 H6 H7 C1
              go_wp2_with (first | ((with_reducible apply wpList_store_bk (b := d) (s := o6) (t := p6) (hq := HQ.out)); exact rfl; exact rfl; exact rfl; exact rfl) | ((with_reducible apply wpList_store_cg (c := x) (hq := HR.out)); exact rfl; exact rfl; exact rfl; exact rfl))
              go_meet
              exact ⟨d, o6, p6, x, e, rfl, H8.out, HRES.out⟩
        · have d1 : decide (y.kind = 1) = false := by simp; omega
          have d2 : decide (y.kind = 2) = false := by simp; omega
          have q1 : (y.kind == 1) = false := by simp; omega
          have q2 : (y.kind == 2) = false := by simp; omega
          clear hk
          by_cases h3 : y.kind = 3
          · have d3 : decide (y.kind = 3) = true := by simpa using h3
            have q3 : (y.kind == 3) = true := by simpa using h3
            clear h3
            have HRES : Hid (Res b (cancelB b y.n y.m).1 (cancelB b y.n y.m).2.1 (cancelB b y.n y.m).2.2) := Lib.hid (res_three rfl (cancel_apply HRP.out) cancelB_err)
            have C1 := Lib.hid (CC.out _ HUS.out.rs.at_)
            generalize cancelB b y.n y.m = rr at *
            obtain ⟨d, x, e⟩ := rr
            as_aux_lemma =>
              go_wp2_with (first | ((with_reducible apply wpList_load_bk (h := HG.out)); exact rfl; exact rfl; exact rfl) | (go_at_call 10; (with_reducible refine C1.out.mono ?_)))
              rintro e0 w6 ⟨o6, p6, rfl, ha6, hb6⟩
              have ha6 : BAt w6 d o6 p6 := ha6
              have H6 := Lib.hid (HUS.out.step hb6)
              have HQ := Lib.hid H6.out.dk
              have H7 := Lib.hid (H6.out.put12 ha6)
              have HR := Lib.hid H7.out.ck
              have H8 := Lib.hid (H7.out.put13 x)
              have HRES : Hid (Res b d x e) := HRES
              clear HUS HG HX HCH k9 k10 hb6 ha6 H6 H7 C1
              go_wp2_with (first | ((with_reducible apply wpList_store_bk (b := d) (s := o6) (t := p6) (hq := HQ.out)); exact rfl; exact rfl; exact rfl; exact rfl) | ((with_reducible apply wpList_store_cg (c := x) (hq := HR.out)); exact rfl; exact rfl; exact rfl; exact rfl))
              go_meet
              exact ⟨d, o6, p6, x, e, rfl, H8.out, HRES.out⟩
          · have d3 : decide (y.kind = 3) = false := by simpa using h3
            have q3 : (y.kind == 3) = false := by simpa using h3
            clear h3
            by_cases h4 : y.kind = 4
            · have d4 : decide (y.kind = 4) = true := by simpa using h4
              have q4 : (y.kind == 4) = true := by simpa using h4
              clear h4
              have HRES : Hid (Res b (setB b y.n y.m).1 (setB b y.n y.m).2.1 (setB b y.n y.m).2.2) := Lib.hid (res_three rfl set_apply setB_err)
              have C1 := Lib.hid (CS.out _ HUS.out.rs.at_)
              generalize setB b y.n y.m = rr at *
              obtain ⟨d, x, e⟩ := rr
              as_aux_lemma =>
                go_wp2_with (first | ((with_reducible apply wpList_load_bk (h := HG.out)); exact rfl; exact rfl; exact rfl) | (go_at_call 11; (with_reducible refine C1.out.mono ?_)))
                rintro e0 w6 ⟨o6, p6, rfl, ha6, hb6⟩
                have ha6 : BAt w6 d o6 p6 := ha6
                have H6 := Lib.hid (HUS.out.step hb6)
                have HQ := Lib.hid H6.out.dk
                have H7 := Lib.hid (H6.out.put12 ha6)
                have HR := Lib.hid H7.out.ck
                have H8 := Lib.hid (H7.out.put13 x)
                have HRES : Hid (Res b d x e) := HRES
                clear HUS HG HX HCH k9 k10 hb6 ha6 H6 H7 C1
                go_wp2_with (first | ((with_reducible apply wpList_store_bk (b := d) (s := o6) (t := p6) (hq := HQ.out)); exact rfl; exact rfl; exact rfl; exact rfl) | ((with_reducible apply wpList_store_cg (c := x) (hq := HR.out)); exact rfl; exact rfl; exact rfl; exact rfl))
                go_meet
                exact ⟨d, o6, p6, x, e, rfl, H8.out, HRES.out⟩
            · have d4 : decide (y.kind = 4) = false := by simpa using h4
              have q4 : (y.kind == 4) = false := by simpa using h4
              clear h4
              obtain ⟨⟨d, e⟩, hr⟩ : ∃ r, applyB b y.ch = r := ⟨_, rfl⟩
              have HRR := Lib.hid hr
              have C1 : Hid (Calls Try.prog 12 #[b.V o p, y.ch.V] V5 (B2 V5 (d, e))) := Lib.hid (by have h := CY.out _ HUS.out.rs.at_; rwa [hr] at h)
              clear hr
              by_cases he : e = 0
              · have f1 : decide (e = 0) = true := by simpa using he
                have f2 : (e == 0) = true := by simpa using he
                have HRES : Hid (Res b d y.ch e) := Lib.hid (.inl ⟨he, by have := HRR.out; rwa [he] at this⟩)
                clear he
                as_aux_lemma =>
                  go_wp2_with (first | ((with_reducible apply wpList_load_bk (h := HG.out)); exact rfl; exact rfl; exact rfl) | ((with_reducible apply wpList_load_cgp (c := y.ch) (h := HCH.out)); exact rfl; exact rfl; exact rfl) | (go_at_call 12; (with_reducible refine C1.out.mono ?_)))
                  rintro e w6 ⟨o6, p6, rfl, ha6, hb6⟩
                  have H6 := Lib.hid (HUS.out.step hb6)
                  have HQ := Lib.hid H6.out.dk
                  have H7 := Lib.hid (H6.out.put12 ha6)
                  have HR := Lib.hid H7.out.ck; have HCH := Lib.hid H7.out.dd.ch
                  have H8 := Lib.hid (H7.out.put13 y.ch)
                  clear HUS HG HX k9 k10 hb6 ha6 H6 H7 C1
                  go_wp2_with (first | ((with_reducible apply wpList_store_bk (b := d) (s := o6) (t := p6) (hq := HQ.out)); exact rfl; exact rfl; exact rfl; exact rfl) | ((with_reducible apply wpList_load_cgp (c := y.ch) (h := HCH.out)); exact rfl; exact rfl; exact rfl) | ((with_reducible apply wpList_store_cg (c := y.ch) (hq := HR.out)); exact rfl; exact rfl; exact rfl; exact rfl))
                  go_meet
                  exact ⟨d, o6, p6, y.ch, _, rfl, H8.out, HRES.out⟩
              · have f1 : decide (e = 0) = false := by simpa using he
                have f2 : (e == 0) = false := by simpa using he
                have HRES : Hid (Res b d zg e) := Lib.hid (.inr ⟨he, by have h := applyB_err (b := b) (x := y.ch) (by rw [HRR.out]; exact he); rwa [HRR.out] at h, rfl⟩)
                clear he
                have HUZ : Hid (US w V5 w.heap.size q mb q12 r13 g9 c b o p rv xs F b o p zg y) := HUS
                as_aux_lemma =>
                  go_wp2_with (first | ((with_reducible apply wpList_load_bk (h := HG.out)); exact rfl; exact rfl; exact rfl) | ((with_reducible apply wpList_load_cgp (c := y.ch) (h := HCH.out)); exact rfl; exact rfl; exact rfl) | (go_at_call 12; (with_reducible refine C1.out.mono ?_)))
                  rintro e w6 ⟨o6, p6, rfl, ha6, hb6⟩
                  have H6 := Lib.hid (HUS.out.step hb6)
                  have HQ := Lib.hid H6.out.dk
                  have H7 := Lib.hid (H6.out.put12 ha6)
                  clear HUS HUZ HG HX HCH k9 k10 hb6 ha6 H6 C1
                  go_wp2_with ((with_reducible apply wpList_store_bk (b := d) (s := o6) (t := p6) (hq := HQ.out)); exact rfl; exact rfl; exact rfl; exact rfl)
                  go_meet
                  exact ⟨d, o6, p6, zg, _, rfl, H7.out, HRES.out⟩
      case rest =>
        obtain ⟨d, o', p', x, e, rfl, hus2, hres⟩ := hcut
        clear HUS
        have HU := Lib.hid hus2; have HRES := Lib.hid hres; clear hus2 hres
        have n1 : (b.ix != b.ix) = false := by simp
        have n2 : ((nl : Int) != (nl : Int)) = false := by simp
        have HG := Lib.hid HU.out.rs.bk; have CI := Lib.hid (index_any b o p wc)
        go_wp2_with (first | ((with_reducible apply wpList_load_bk (h := HG.out)); exact rfl; exact rfl; exact rfl) | (go_at_call 7; (with_reducible refine CI.out.mono ?_)))
        rintro e0 V6 ⟨rfl, hb6⟩
        have HU6 := Lib.hid (HU.out.step hb6)
        clear HU HG CI hb6
        have HG := Lib.hid HU6.out.rs.bk; have CL := Lib.hid (live_any HU6.out.rs.at_)
        by_cases he : e = 0
        · have d0 : decide (e = 0) = true := by simpa using he
          have n0 : (e != 0) = false := by simpa using he
          subst he
          have HAP : Hid (applyB b x = (d, 0)) := Lib.hid (by rcases HRES.out with h | h; exact h.2; exact absurd rfl h.1)
          clear HRES
          go_wp2_with (first | ((with_reducible apply wpList_load_bk (h := HG.out)); exact rfl; exact rfl; exact rfl) | (go_at_call 8; (with_reducible refine CL.out.mono ?_)))
          rintro e0 V7 ⟨vl, rfl, hol, hb7⟩
          obtain ⟨OM, cM, rfl⟩ : ∃ O c, vl = .slice O (b.live.map (·.2)).length c := rd_len hol.rd
          rw [HNL.out]
          have HU7 := Lib.hid (HU6.out.step hb7)
          clear HU6 HG CL hb7 hol
          go_upto_region 31 with fail
          obtain ⟨hrp2, hx1, hd1, hf1, hz1, hc1, hi0, hi1⟩ := HRP.out.step HU7.out.rs.at_.1.rise (F' := fun z => F z || (decide (z = x.k.id) && (decide (x.k.id ≠ 0) && !livesK x.k))) (by have := HXJ.out; omega) HAP.out (fun z => rfl)
          have HRP2 := Lib.hid hrp2
          have HX1 := Lib.hid hx1; have HD1 := Lib.hid hd1
          have hwr : IntKind.i64.wrap (b.ix + 1) = b.ix + 1 := HRP.out.ok.wrap
          have hbx := HRP.out.ok.ix
          have HF0 : Hid (F x.k.id = false) := Lib.hid (by
            by_cases h : x.k.id = 0
            · cases e : F x.k.id
              · rfl
              · have := (HRP.out.fin _ e).1; omega
            · exact hf1 h)
          have HWX : Hid ((Lit.int .i64 x.k.id).wf = true) := Lib.hid (by
            have : top = 1073741824 := rfl
            simp [Lit.wf, IntKind.min, IntKind.max, IntKind.bits, IntKind.signed]; omega)
          have hrm := hrp2.room (by rw [hc1]; exact hz1)
          have hl1 := HU7.out.da.1.le.1; have hl2 := HU7.out.da.2.le.1
          have hg1 : decide ((d.live.length : Int) > c.get 3) = false := decide_eq_false (by omega)
          have hg2 : decide ((d.done.length : Int) > c.get 3) = false := decide_eq_false (by omega)
          clear hrp2 hx1 hd1 hf1 hz1 hc1 hi0 hi1 hbx hrm hl1 hl2
          have HQ := Lib.hid HU7.out.dk; have HR := Lib.hid HU7.out.ck; have HDA := Lib.hid HU7.out.da; have HCC := Lib.hid HU7.out.rs.cat; have HMM := Lib.hid HU7.out.rs.map
          refine AnyOrder.region_kinds2 42 [.eq (d.V o' p'), .eq (.int .i64 (b.ix + 1)), .eq (.int .i64 b.ix), .eq (.int .i64 (b.ix + 1)), .eq (.bool false), .eq (.bool false), .eq (ptr r13 0), .eq (.int .i64 (b.ix + 1)), .eq (.int .i64 b.ix), .eq (.int .i64 (b.ix + 1)), .eq (.bool false), .eq (.bool false), .eq (.bool false), .eq (d.V o' p'), .of (RwAt (d.live.map (·.2))), .eq (.int .i64 (d.live.length : Int)), .eq (ptr w.heap.size 3), .eq (.int .i64 (c.get 3)), .eq (.bool false), .eq (.bool false), .eq (.bool false), .eq (d.V o' p'), .of (RwAt (d.done.map (·.2))), .eq (.int .i64 (d.done.length : Int)), .eq (ptr w.heap.size 3), .eq (.int .i64 (c.get 3)), .eq (.bool false), .eq (.bool false), .eq (.bool false), .eq (.map (some mb)), .eq (ptr r13 1), .eq (ptr r13 1), .eq (.int .i64 x.k.id), .eq (.int .i64 0), .eq (.bool false), .eq (.bool false), .eq (undef), .eq (undef), .eq (undef), .eq (undef), .eq (.bool false), .eq (.bool false)] (fun wx => Below V7.heap.size V7 wx) (by kernel_rfl) (by kernel_rfl) rfl (by kernel_rfl) (below_drewN (Below.refl _ _) 1) (by intro p wa wb hp hj hb v hv; simp at hp; rcases hp with rfl | rfl <;> (first | exact RwAt.keep hv hb | exact RwAt.keep hv hb | fail)) ?_ ?_
          · intro i o listed a1 w2 hin ho st hl hdep
            match i, ho with
            | 0, ho => (injection ho with ho; subst ho; have ec : ∀ v, a1.eval (.const v) = v := fun _ => rfl; have ef : ∀ f, a1.eval (.func f) = .func (.func f) #[] #[] := fun _ => rfl; have e0 : a1.eval (.tmp 12) = ptr q12 0 := st.old hl 12 (by kernel_rfl); exact AnyOrder.step_value rfl (AnyOrder.wanted_none rfl) (d.V o' p') (run_load_bk e0 (At.step HQ.out st.inv)) st.inv (Below.refl _ _) rfl)
            | 1, ho => (injection ho with ho; subst ho; have ec : ∀ v, a1.eval (.const v) = v := fun _ => rfl; have ef : ∀ f, a1.eval (.func f) = .func (.func f) #[] #[] := fun _ => rfl; have e0 : a1.eval (.tmp 127) = d.V o' p' := st.done 0 127 (hdep ⟨0, .data⟩ (by simp) rfl) rfl; exact AnyOrder.step_call rfl (AnyOrder.wanted_none rfl) 7 #[d.V o' p'] (by generalize a1.eval = ρ at ec ef e0 ⊢; simp [execOp, ec, ef, e0, go_sem]) (((show Calls Try.prog 7 _ w2 (Num w2 (b.ix + 1)) from by have h := index_any d o' p' w2; rwa [HD1.out] at h)).mono (fun e w3 h => by obtain ⟨rfl, hb⟩ := h; exact ⟨_, rfl, st.inv.trans (hb.mono st.inv.size), hb, rfl⟩)))
            | 2, ho => (injection ho with ho; subst ho; have ec : ∀ v, a1.eval (.const v) = v := fun _ => rfl; have ef : ∀ f, a1.eval (.func f) = .func (.func f) #[] #[] := fun _ => rfl; have e0 : a1.eval (.tmp 10) = .int .i64 b.ix := st.old hl 10 (by kernel_rfl); exact AnyOrder.step_value rfl (AnyOrder.wanted_none rfl) (.int .i64 b.ix) (AnyOrder.run_move e0) st.inv (Below.refl _ _) rfl)
            | 3, ho => (injection ho with ho; subst ho; have ec : ∀ v, a1.eval (.const v) = v := fun _ => rfl; have ef : ∀ f, a1.eval (.func f) = .func (.func f) #[] #[] := fun _ => rfl; have e0 : a1.eval (.tmp 129) = .int .i64 b.ix := st.done 2 129 (hdep ⟨2, .data⟩ (by simp) rfl) rfl; exact AnyOrder.step_value rfl (AnyOrder.wanted_none rfl) (.int .i64 (b.ix + 1)) (by generalize a1.eval = ρ at ec ef e0 ⊢; simp [execOp, ec, ef, e0, IntWalk.i64_left, hwr, go_sem]) st.inv (Below.refl _ _) rfl)
            | 4, ho => (injection ho with ho; subst ho; have ec : ∀ v, a1.eval (.const v) = v := fun _ => rfl; have ef : ∀ f, a1.eval (.func f) = .func (.func f) #[] #[] := fun _ => rfl; have e0 : a1.eval (.tmp 128) = .int .i64 (b.ix + 1) := st.done 1 128 (hdep ⟨1, .data⟩ (by simp) rfl) rfl; have e1 : a1.eval (.tmp 130) = .int .i64 (b.ix + 1) := st.done 3 130 (hdep ⟨3, .data⟩ (by simp) rfl) rfl; exact AnyOrder.step_value rfl (AnyOrder.wanted_none rfl) (.bool false) (by generalize a1.eval = ρ at ec ef e0 e1 ⊢; simp [execOp, ec, ef, e0, e1, IntWalk.i64_left, go_sem]) st.inv (Below.refl _ _) rfl)
            | 5, ho => (injection ho with ho; subst ho; have ec : ∀ v, a1.eval (.const v) = v := fun _ => rfl; have ef : ∀ f, a1.eval (.func f) = .func (.func f) #[] #[] := fun _ => rfl; have e0 : a1.eval (.tmp 131) = .bool false := st.done 4 131 (hdep ⟨4, .data⟩ (by simp) rfl) rfl; exact AnyOrder.step_value rfl (AnyOrder.wanted_none rfl) (.bool false) (AnyOrder.run_move e0) st.inv (Below.refl _ _) rfl)
            | 6, ho => (injection ho with ho; subst ho; have ec : ∀ v, a1.eval (.const v) = v := fun _ => rfl; have ef : ∀ f, a1.eval (.func f) = .func (.func f) #[] #[] := fun _ => rfl; have e0 : a1.eval (.tmp 13) = ptr r13 0 := st.old hl 13 (by kernel_rfl); have eg : a1.eval (.tmp 132) = .bool false := st.done 5 132 (hdep ⟨5, .guard⟩ (by simp) rfl) rfl; exact AnyOrder.step_value rfl ((AnyOrder.wanted_of rfl rfl eg).trans rfl) (ptr r13 0) (by generalize a1.eval = ρ at ec ef e0 ⊢; simp [execOp, ec, ef, e0, IntWalk.i64_left, go_sem]) st.inv (Below.refl _ _) rfl)
            | 7, ho => (injection ho with ho; subst ho; have ec : ∀ v, a1.eval (.const v) = v := fun _ => rfl; have ef : ∀ f, a1.eval (.func f) = .func (.func f) #[] #[] := fun _ => rfl; have e0 : a1.eval (.tmp 133) = ptr r13 0 := st.done 6 133 (hdep ⟨6, .data⟩ (by simp) rfl) rfl; have eg : a1.eval (.tmp 132) = .bool false := st.done 5 132 (hdep ⟨5, .guard⟩ (by simp) rfl) rfl; exact AnyOrder.step_value rfl ((AnyOrder.wanted_of rfl rfl eg).trans rfl) (.int .i64 (b.ix + 1)) (by have hk := (show w2.cell? ⟨r13, 0, none⟩ = some (.int .i64 (b.ix + 1)) from by have h := CgAt.k0 (At.step HR.out st.inv); rwa [HX1.out] at h); generalize a1.eval = ρ at ec ef e0 ⊢; simp [execOp, e0, go_sem, hk]) st.inv (Below.refl _ _) rfl)
            | 8, ho => (injection ho with ho; subst ho; have ec : ∀ v, a1.eval (.const v) = v := fun _ => rfl; have ef : ∀ f, a1.eval (.func f) = .func (.func f) #[] #[] := fun _ => rfl; have e0 : a1.eval (.tmp 10) = .int .i64 b.ix := st.old hl 10 (by kernel_rfl); have eg : a1.eval (.tmp 132) = .bool false := st.done 5 132 (hdep ⟨5, .guard⟩ (by simp) rfl) rfl; exact AnyOrder.step_value rfl ((AnyOrder.wanted_of rfl rfl eg).trans rfl) (.int .i64 b.ix) (AnyOrder.run_move e0) st.inv (Below.refl _ _) rfl)
            | 9, ho => (injection ho with ho; subst ho; have ec : ∀ v, a1.eval (.const v) = v := fun _ => rfl; have ef : ∀ f, a1.eval (.func f) = .func (.func f) #[] #[] := fun _ => rfl; have e0 : a1.eval (.tmp 135) = .int .i64 b.ix := st.done 8 135 (hdep ⟨8, .data⟩ (by simp) rfl) rfl; have eg : a1.eval (.tmp 132) = .bool false := st.done 5 132 (hdep ⟨5, .guard⟩ (by simp) rfl) rfl; exact AnyOrder.step_value rfl ((AnyOrder.wanted_of rfl rfl eg).trans rfl) (.int .i64 (b.ix + 1)) (by generalize a1.eval = ρ at ec ef e0 ⊢; simp [execOp, ec, ef, e0, IntWalk.i64_left, hwr, go_sem]) st.inv (Below.refl _ _) rfl)
            | 10, ho => (injection ho with ho; subst ho; have ec : ∀ v, a1.eval (.const v) = v := fun _ => rfl; have ef : ∀ f, a1.eval (.func f) = .func (.func f) #[] #[] := fun _ => rfl; have e0 : a1.eval (.tmp 134) = .int .i64 (b.ix + 1) := st.done 7 134 (hdep ⟨7, .data⟩ (by simp) rfl) rfl; have e1 : a1.eval (.tmp 136) = .int .i64 (b.ix + 1) := st.done 9 136 (hdep ⟨9, .data⟩ (by simp) rfl) rfl; have eg : a1.eval (.tmp 132) = .bool false := st.done 5 132 (hdep ⟨5, .guard⟩ (by simp) rfl) rfl; exact AnyOrder.step_value rfl ((AnyOrder.wanted_of rfl rfl eg).trans rfl) (.bool false) (by generalize a1.eval = ρ at ec ef e0 e1 ⊢; simp [execOp, ec, ef, e0, e1, IntWalk.i64_left, go_sem]) st.inv (Below.refl _ _) rfl)
            | 11, ho => (injection ho with ho; subst ho; have ec : ∀ v, a1.eval (.const v) = v := fun _ => rfl; have ef : ∀ f, a1.eval (.func f) = .func (.func f) #[] #[] := fun _ => rfl; have e0 : a1.eval (.tmp 132) = .bool false := st.done 5 132 (hdep ⟨5, .data⟩ (by simp) rfl) rfl; have e1 : a1.eval (.tmp 137) = .bool false := st.done 10 137 (hdep ⟨10, .data⟩ (by simp) rfl) rfl; exact AnyOrder.step_value rfl (AnyOrder.wanted_none rfl) (.bool false) (by generalize a1.eval = ρ at ec ef e0 e1 ⊢; simp [execOp, ec, ef, e0, e1, IntWalk.i64_left, go_sem]) st.inv (Below.refl _ _) rfl)
            | 12, ho => (injection ho with ho; subst ho; have ec : ∀ v, a1.eval (.const v) = v := fun _ => rfl; have ef : ∀ f, a1.eval (.func f) = .func (.func f) #[] #[] := fun _ => rfl; have e0 : a1.eval (.tmp 138) = .bool false := st.done 11 138 (hdep ⟨11, .data⟩ (by simp) rfl) rfl; exact AnyOrder.step_value rfl (AnyOrder.wanted_none rfl) (.bool false) (AnyOrder.run_move e0) st.inv (Below.refl _ _) rfl)
            | 13, ho => (injection ho with ho; subst ho; have ec : ∀ v, a1.eval (.const v) = v := fun _ => rfl; have ef : ∀ f, a1.eval (.func f) = .func (.func f) #[] #[] := fun _ => rfl; have e0 : a1.eval (.tmp 12) = ptr q12 0 := st.old hl 12 (by kernel_rfl); have eg : a1.eval (.tmp 139) = .bool false := st.done 12 139 (hdep ⟨12, .guard⟩ (by simp) rfl) rfl; exact AnyOrder.step_value rfl ((AnyOrder.wanted_of rfl rfl eg).trans rfl) (d.V o' p') (run_load_bk e0 (At.step HQ.out st.inv)) st.inv (Below.refl _ _) rfl)
            | 14, ho => (injection ho with ho; subst ho; have ec : ∀ v, a1.eval (.const v) = v := fun _ => rfl; have ef : ∀ f, a1.eval (.func f) = .func (.func f) #[] #[] := fun _ => rfl; have e0 : a1.eval (.tmp 140) = d.V o' p' := st.done 13 140 (hdep ⟨13, .data⟩ (by simp) rfl) rfl; have eg : a1.eval (.tmp 139) = .bool false := st.done 12 139 (hdep ⟨12, .chain⟩ (by simp) rfl) rfl; exact AnyOrder.step_call rfl ((AnyOrder.wanted_of rfl rfl eg).trans rfl) 8 #[d.V o' p'] (by generalize a1.eval = ρ at ec ef e0 ⊢; simp [execOp, ec, ef, e0, go_sem]) ((live_any (HDA.out.step st.inv)).mono (fun e w4 h => by obtain ⟨vk, rfl, ho, hb⟩ := h; exact ⟨_, rfl, st.inv.trans (hb.mono st.inv.size), hb, ho.rd⟩)))
            | 15, ho => (injection ho with ho; subst ho; have ec : ∀ v, a1.eval (.const v) = v := fun _ => rfl; have ef : ∀ f, a1.eval (.func f) = .func (.func f) #[] #[] := fun _ => rfl; have e0 := st.done 14 141 (hdep ⟨14, .data⟩ (by simp) rfl) rfl; have eg : a1.eval (.tmp 139) = .bool false := st.done 12 139 (hdep ⟨12, .guard⟩ (by simp) rfl) rfl; obtain ⟨O, cc, e0⟩ := rd_len e0; rw [List.length_map] at e0; exact AnyOrder.step_value rfl ((AnyOrder.wanted_of rfl rfl eg).trans rfl) (.int .i64 (d.live.length : Int)) (by generalize a1.eval = ρ at ec ef e0 ⊢; simp [execOp, ec, ef, e0, go_sem]) st.inv (Below.refl _ _) rfl)
            | 16, ho => (injection ho with ho; subst ho; have ec : ∀ v, a1.eval (.const v) = v := fun _ => rfl; have ef : ∀ f, a1.eval (.func f) = .func (.func f) #[] #[] := fun _ => rfl; have e0 : a1.eval (.tmp 2) = ptr w.heap.size 0 := st.old hl 2 (by kernel_rfl); have eg : a1.eval (.tmp 139) = .bool false := st.done 12 139 (hdep ⟨12, .guard⟩ (by simp) rfl) rfl; exact AnyOrder.step_value rfl ((AnyOrder.wanted_of rfl rfl eg).trans rfl) (ptr w.heap.size 3) (by generalize a1.eval = ρ at ec ef e0 ⊢; simp [execOp, ec, ef, e0, IntWalk.i64_left, go_sem]) st.inv (Below.refl _ _) rfl)
            | 17, ho => (injection ho with ho; subst ho; have ec : ∀ v, a1.eval (.const v) = v := fun _ => rfl; have ef : ∀ f, a1.eval (.func f) = .func (.func f) #[] #[] := fun _ => rfl; have e0 : a1.eval (.tmp 143) = ptr w.heap.size 3 := st.done 16 143 (hdep ⟨16, .data⟩ (by simp) rfl) rfl; have eg : a1.eval (.tmp 139) = .bool false := st.done 12 139 (hdep ⟨12, .guard⟩ (by simp) rfl) rfl; exact AnyOrder.step_value rfl ((AnyOrder.wanted_of rfl rfl eg).trans rfl) (.int .i64 (c.get 3)) (by have hk := CAt.get (CAt.step HCC.out st.inv) (k := 3) (by decide); generalize a1.eval = ρ at ec ef e0 ⊢; simp [execOp, e0, go_sem, hk]) st.inv (Below.refl _ _) rfl)
            | 18, ho => (injection ho with ho; subst ho; have ec : ∀ v, a1.eval (.const v) = v := fun _ => rfl; have ef : ∀ f, a1.eval (.func f) = .func (.func f) #[] #[] := fun _ => rfl; have e0 : a1.eval (.tmp 142) = .int .i64 (d.live.length : Int) := st.done 15 142 (hdep ⟨15, .data⟩ (by simp) rfl) rfl; have e1 : a1.eval (.tmp 144) = .int .i64 (c.get 3) := st.done 17 144 (hdep ⟨17, .data⟩ (by simp) rfl) rfl; have eg : a1.eval (.tmp 139) = .bool false := st.done 12 139 (hdep ⟨12, .guard⟩ (by simp) rfl) rfl; exact AnyOrder.step_value rfl ((AnyOrder.wanted_of rfl rfl eg).trans rfl) (.bool false) (by generalize a1.eval = ρ at ec ef e0 e1 ⊢; simp [execOp, ec, ef, e0, e1, IntWalk.i64_left, hg1, go_sem]) st.inv (Below.refl _ _) rfl)
            | 19, ho => (injection ho with ho; subst ho; have ec : ∀ v, a1.eval (.const v) = v := fun _ => rfl; have ef : ∀ f, a1.eval (.func f) = .func (.func f) #[] #[] := fun _ => rfl; have e0 : a1.eval (.tmp 139) = .bool false := st.done 12 139 (hdep ⟨12, .data⟩ (by simp) rfl) rfl; have e1 : a1.eval (.tmp 145) = .bool false := st.done 18 145 (hdep ⟨18, .data⟩ (by simp) rfl) rfl; exact AnyOrder.step_value rfl (AnyOrder.wanted_none rfl) (.bool false) (by generalize a1.eval = ρ at ec ef e0 e1 ⊢; simp [execOp, ec, ef, e0, e1, IntWalk.i64_left, go_sem]) st.inv (Below.refl _ _) rfl)
            | 20, ho => (injection ho with ho; subst ho; have ec : ∀ v, a1.eval (.const v) = v := fun _ => rfl; have ef : ∀ f, a1.eval (.func f) = .func (.func f) #[] #[] := fun _ => rfl; have e0 : a1.eval (.tmp 146) = .bool false := st.done 19 146 (hdep ⟨19, .data⟩ (by simp) rfl) rfl; exact AnyOrder.step_value rfl (AnyOrder.wanted_none rfl) (.bool false) (AnyOrder.run_move e0) st.inv (Below.refl _ _) rfl)
            | 21, ho => (injection ho with ho; subst ho; have ec : ∀ v, a1.eval (.const v) = v := fun _ => rfl; have ef : ∀ f, a1.eval (.func f) = .func (.func f) #[] #[] := fun _ => rfl; have e0 : a1.eval (.tmp 12) = ptr q12 0 := st.old hl 12 (by kernel_rfl); have eg : a1.eval (.tmp 147) = .bool false := st.done 20 147 (hdep ⟨20, .guard⟩ (by simp) rfl) rfl; exact AnyOrder.step_value rfl ((AnyOrder.wanted_of rfl rfl eg).trans rfl) (d.V o' p') (run_load_bk e0 (At.step HQ.out st.inv)) st.inv (Below.refl _ _) rfl)
            | 22, ho => (injection ho with ho; subst ho; have ec : ∀ v, a1.eval (.const v) = v := fun _ => rfl; have ef : ∀ f, a1.eval (.func f) = .func (.func f) #[] #[] := fun _ => rfl; have e0 : a1.eval (.tmp 148) = d.V o' p' := st.done 21 148 (hdep ⟨21, .data⟩ (by simp) rfl) rfl; have eg : a1.eval (.tmp 147) = .bool false := st.done 20 147 (hdep ⟨20, .chain⟩ (by simp) rfl) rfl; exact AnyOrder.step_call rfl ((AnyOrder.wanted_of rfl rfl eg).trans rfl) 13 #[d.V o' p'] (by generalize a1.eval = ρ at ec ef e0 ⊢; simp [execOp, ec, ef, e0, go_sem]) ((done_any (HDA.out.step st.inv)).mono (fun e w4 h => by obtain ⟨vk, rfl, ho, hb⟩ := h; exact ⟨_, rfl, st.inv.trans (hb.mono st.inv.size), hb, ho.rd⟩)))
            | 23, ho => (injection ho with ho; subst ho; have ec : ∀ v, a1.eval (.const v) = v := fun _ => rfl; have ef : ∀ f, a1.eval (.func f) = .func (.func f) #[] #[] := fun _ => rfl; have e0 := st.done 22 149 (hdep ⟨22, .data⟩ (by simp) rfl) rfl; have eg : a1.eval (.tmp 147) = .bool false := st.done 20 147 (hdep ⟨20, .guard⟩ (by simp) rfl) rfl; obtain ⟨O, cc, e0⟩ := rd_len e0; rw [List.length_map] at e0; exact AnyOrder.step_value rfl ((AnyOrder.wanted_of rfl rfl eg).trans rfl) (.int .i64 (d.done.length : Int)) (by generalize a1.eval = ρ at ec ef e0 ⊢; simp [execOp, ec, ef, e0, go_sem]) st.inv (Below.refl _ _) rfl)
            | 24, ho => (injection ho with ho; subst ho; have ec : ∀ v, a1.eval (.const v) = v := fun _ => rfl; have ef : ∀ f, a1.eval (.func f) = .func (.func f) #[] #[] := fun _ => rfl; have e0 : a1.eval (.tmp 2) = ptr w.heap.size 0 := st.old hl 2 (by kernel_rfl); have eg : a1.eval (.tmp 147) = .bool false := st.done 20 147 (hdep ⟨20, .guard⟩ (by simp) rfl) rfl; exact AnyOrder.step_value rfl ((AnyOrder.wanted_of rfl rfl eg).trans rfl) (ptr w.heap.size 3) (by generalize a1.eval = ρ at ec ef e0 ⊢; simp [execOp, ec, ef, e0, IntWalk.i64_left, go_sem]) st.inv (Below.refl _ _) rfl)
            | 25, ho => (injection ho with ho; subst ho; have ec : ∀ v, a1.eval (.const v) = v := fun _ => rfl; have ef : ∀ f, a1.eval (.func f) = .func (.func f) #[] #[] := fun _ => rfl; have e0 : a1.eval (.tmp 151) = ptr w.heap.size 3 := st.done 24 151 (hdep ⟨24, .data⟩ (by simp) rfl) rfl; have eg : a1.eval (.tmp 147) = .bool false := st.done 20 147 (hdep ⟨20, .guard⟩ (by simp) rfl) rfl; exact AnyOrder.step_value rfl ((AnyOrder.wanted_of rfl rfl eg).trans rfl) (.int .i64 (c.get 3)) (by have hk := CAt.get (CAt.step HCC.out st.inv) (k := 3) (by decide); generalize a1.eval = ρ at ec ef e0 ⊢; simp [execOp, e0, go_sem, hk]) st.inv (Below.refl _ _) rfl)
            | 26, ho => (injection ho with ho; subst ho; have ec : ∀ v, a1.eval (.const v) = v := fun _ => rfl; have ef : ∀ f, a1.eval (.func f) = .func (.func f) #[] #[] := fun _ => rfl; have e0 : a1.eval (.tmp 150) = .int .i64 (d.done.length : Int) := st.done 23 150 (hdep ⟨23, .data⟩ (by simp) rfl) rfl; have e1 : a1.eval (.tmp 152) = .int .i64 (c.get 3) := st.done 25 152 (hdep ⟨25, .data⟩ (by simp) rfl) rfl; have eg : a1.eval (.tmp 147) = .bool false := st.done 20 147 (hdep ⟨20, .guard⟩ (by simp) rfl) rfl; exact AnyOrder.step_value rfl ((AnyOrder.wanted_of rfl rfl eg).trans rfl) (.bool false) (by generalize a1.eval = ρ at ec ef e0 e1 ⊢; simp [execOp, ec, ef, e0, e1, IntWalk.i64_left, hg2, go_sem]) st.inv (Below.refl _ _) rfl)
            | 27, ho => (injection ho with ho; subst ho; have ec : ∀ v, a1.eval (.const v) = v := fun _ => rfl; have ef : ∀ f, a1.eval (.func f) = .func (.func f) #[] #[] := fun _ => rfl; have e0 : a1.eval (.tmp 147) = .bool false := st.done 20 147 (hdep ⟨20, .data⟩ (by simp) rfl) rfl; have e1 : a1.eval (.tmp 153) = .bool false := st.done 26 153 (hdep ⟨26, .data⟩ (by simp) rfl) rfl; exact AnyOrder.step_value rfl (AnyOrder.wanted_none rfl) (.bool false) (by generalize a1.eval = ρ at ec ef e0 e1 ⊢; simp [execOp, ec, ef, e0, e1, IntWalk.i64_left, go_sem]) st.inv (Below.refl _ _) rfl)
            | 28, ho => (injection ho with ho; subst ho; have ec : ∀ v, a1.eval (.const v) = v := fun _ => rfl; have ef : ∀ f, a1.eval (.func f) = .func (.func f) #[] #[] := fun _ => rfl; have e0 : a1.eval (.tmp 154) = .bool false := st.done 27 154 (hdep ⟨27, .data⟩ (by simp) rfl) rfl; exact AnyOrder.step_value rfl (AnyOrder.wanted_none rfl) (.bool false) (AnyOrder.run_move e0) st.inv (Below.refl _ _) rfl)
            | 29, ho => (injection ho with ho; subst ho; have ec : ∀ v, a1.eval (.const v) = v := fun _ => rfl; have ef : ∀ f, a1.eval (.func f) = .func (.func f) #[] #[] := fun _ => rfl; have e0 : a1.eval (.tmp 7) = .map (some mb) := st.old hl 7 (by kernel_rfl); have eg : a1.eval (.tmp 155) = .bool false := st.done 28 155 (hdep ⟨28, .guard⟩ (by simp) rfl) rfl; exact AnyOrder.step_value rfl ((AnyOrder.wanted_of rfl rfl eg).trans rfl) (.map (some mb)) (AnyOrder.run_move e0) st.inv (Below.refl _ _) rfl)
            | 30, ho => (injection ho with ho; subst ho; have ec : ∀ v, a1.eval (.const v) = v := fun _ => rfl; have ef : ∀ f, a1.eval (.func f) = .func (.func f) #[] #[] := fun _ => rfl; have e0 : a1.eval (.tmp 13) = ptr r13 0 := st.old hl 13 (by kernel_rfl); have eg : a1.eval (.tmp 155) = .bool false := st.done 28 155 (hdep ⟨28, .guard⟩ (by simp) rfl) rfl; exact AnyOrder.step_value rfl ((AnyOrder.wanted_of rfl rfl eg).trans rfl) (ptr r13 1) (by generalize a1.eval = ρ at ec ef e0 ⊢; simp [execOp, ec, ef, e0, IntWalk.i64_left, go_sem]) st.inv (Below.refl _ _) rfl)
            | 31, ho => (injection ho with ho; subst ho; have ec : ∀ v, a1.eval (.const v) = v := fun _ => rfl; have ef : ∀ f, a1.eval (.func f) = .func (.func f) #[] #[] := fun _ => rfl; have e0 : a1.eval (.tmp 157) = ptr r13 1 := st.done 30 157 (hdep ⟨30, .data⟩ (by simp) rfl) rfl; have eg : a1.eval (.tmp 155) = .bool false := st.done 28 155 (hdep ⟨28, .guard⟩ (by simp) rfl) rfl; exact AnyOrder.step_value rfl ((AnyOrder.wanted_of rfl rfl eg).trans rfl) (ptr r13 1) (by generalize a1.eval = ρ at ec ef e0 ⊢; simp [execOp, ec, ef, e0, IntWalk.i64_left, go_sem]) st.inv (Below.refl _ _) rfl)
            | 32, ho => (injection ho with ho; subst ho; have ec : ∀ v, a1.eval (.const v) = v := fun _ => rfl; have ef : ∀ f, a1.eval (.func f) = .func (.func f) #[] #[] := fun _ => rfl; have e0 : a1.eval (.tmp 158) = ptr r13 1 := st.done 31 158 (hdep ⟨31, .data⟩ (by simp) rfl) rfl; have eg : a1.eval (.tmp 155) = .bool false := st.done 28 155 (hdep ⟨28, .guard⟩ (by simp) rfl) rfl; exact AnyOrder.step_value rfl ((AnyOrder.wanted_of rfl rfl eg).trans rfl) (.int .i64 x.k.id) (by have hk := CgAt.k1 (At.step HR.out st.inv); generalize a1.eval = ρ at ec ef e0 ⊢; simp [execOp, e0, go_sem, hk]) st.inv (Below.refl _ _) rfl)
            | 33, ho => (injection ho with ho; subst ho; have ec : ∀ v, a1.eval (.const v) = v := fun _ => rfl; have ef : ∀ f, a1.eval (.func f) = .func (.func f) #[] #[] := fun _ => rfl; have e0 : a1.eval (.tmp 156) = .map (some mb) := st.done 29 156 (hdep ⟨29, .data⟩ (by simp) rfl) rfl; have e1 : a1.eval (.tmp 159) = .int .i64 x.k.id := st.done 32 159 (hdep ⟨32, .data⟩ (by simp) rfl) rfl; have eg : a1.eval (.tmp 155) = .bool false := st.done 28 155 (hdep ⟨28, .guard⟩ (by simp) rfl) rfl; exact AnyOrder.step_value rfl ((AnyOrder.wanted_of rfl rfl eg).trans rfl) (.int .i64 0) (run_lookup e0 e1 (by have hm := EAt.look (EAt.below HMM.out st.inv) HWX.out; rw [HF0.out] at hm; exact hm)) st.inv (Below.refl _ _) rfl)
            | 34, ho => (injection ho with ho; subst ho; have ec : ∀ v, a1.eval (.const v) = v := fun _ => rfl; have ef : ∀ f, a1.eval (.func f) = .func (.func f) #[] #[] := fun _ => rfl; have e0 : a1.eval (.tmp 160) = .int .i64 0 := st.done 33 160 (hdep ⟨33, .data⟩ (by simp) rfl) rfl; have eg : a1.eval (.tmp 155) = .bool false := st.done 28 155 (hdep ⟨28, .guard⟩ (by simp) rfl) rfl; exact AnyOrder.step_value rfl ((AnyOrder.wanted_of rfl rfl eg).trans rfl) (.bool false) (by generalize a1.eval = ρ at ec ef e0 ⊢; simp [execOp, ec, ef, e0, IntWalk.i64_left, go_sem]) st.inv (Below.refl _ _) rfl)
            | 35, ho => (injection ho with ho; subst ho; have ec : ∀ v, a1.eval (.const v) = v := fun _ => rfl; have ef : ∀ f, a1.eval (.func f) = .func (.func f) #[] #[] := fun _ => rfl; have e0 : a1.eval (.tmp 161) = .bool false := st.done 34 161 (hdep ⟨34, .data⟩ (by simp) rfl) rfl; have eg : a1.eval (.tmp 155) = .bool false := st.done 28 155 (hdep ⟨28, .chain⟩ (by simp) rfl) rfl; exact AnyOrder.step_value rfl ((AnyOrder.wanted_of rfl rfl eg).trans rfl) (.bool false) (AnyOrder.run_move e0) st.inv (Below.refl _ _) rfl)
            | 36, ho => (injection ho with ho; subst ho; have ec : ∀ v, a1.eval (.const v) = v := fun _ => rfl; have ef : ∀ f, a1.eval (.func f) = .func (.func f) #[] #[] := fun _ => rfl; have eg : a1.eval (.tmp 162) = .bool false := st.done 35 162 (hdep ⟨35, .guard⟩ (by simp) rfl) rfl; exact AnyOrder.step_skip rfl ((AnyOrder.wanted_of rfl rfl eg).trans rfl) st.inv rfl)
            | 37, ho => (injection ho with ho; subst ho; have ec : ∀ v, a1.eval (.const v) = v := fun _ => rfl; have ef : ∀ f, a1.eval (.func f) = .func (.func f) #[] #[] := fun _ => rfl; have eg : a1.eval (.tmp 162) = .bool false := st.done 35 162 (hdep ⟨35, .guard⟩ (by simp) rfl) rfl; exact AnyOrder.step_skip rfl ((AnyOrder.wanted_of rfl rfl eg).trans rfl) st.inv rfl)
            | 38, ho => (injection ho with ho; subst ho; have ec : ∀ v, a1.eval (.const v) = v := fun _ => rfl; have ef : ∀ f, a1.eval (.func f) = .func (.func f) #[] #[] := fun _ => rfl; have eg : a1.eval (.tmp 162) = .bool false := st.done 35 162 (hdep ⟨35, .guard⟩ (by simp) rfl) rfl; exact AnyOrder.step_skip rfl ((AnyOrder.wanted_of rfl rfl eg).trans rfl) st.inv rfl)
            | 39, ho => (injection ho with ho; subst ho; have ec : ∀ v, a1.eval (.const v) = v := fun _ => rfl; have ef : ∀ f, a1.eval (.func f) = .func (.func f) #[] #[] := fun _ => rfl; have eg : a1.eval (.tmp 162) = .bool false := st.done 35 162 (hdep ⟨35, .guard⟩ (by simp) rfl) rfl; exact AnyOrder.step_skip rfl ((AnyOrder.wanted_of rfl rfl eg).trans rfl) st.inv rfl)
            | 40, ho => (injection ho with ho; subst ho; have ec : ∀ v, a1.eval (.const v) = v := fun _ => rfl; have ef : ∀ f, a1.eval (.func f) = .func (.func f) #[] #[] := fun _ => rfl; have e0 : a1.eval (.tmp 162) = .bool false := st.done 35 162 (hdep ⟨35, .data⟩ (by simp) rfl) rfl; have e1 : a1.eval (.tmp 166) = undef := st.done 39 166 (hdep ⟨39, .data⟩ (by simp) rfl) rfl; have eg : a1.eval (.tmp 155) = .bool false := st.done 28 155 (hdep ⟨28, .guard⟩ (by simp) rfl) rfl; exact AnyOrder.step_value rfl ((AnyOrder.wanted_of rfl rfl eg).trans rfl) (.bool false) (by generalize a1.eval = ρ at ec ef e0 e1 ⊢; simp [execOp, ec, ef, e0, e1, IntWalk.i64_left, go_sem]) st.inv (Below.refl _ _) rfl)
            | 41, ho => (injection ho with ho; subst ho; have ec : ∀ v, a1.eval (.const v) = v := fun _ => rfl; have ef : ∀ f, a1.eval (.func f) = .func (.func f) #[] #[] := fun _ => rfl; have e0 : a1.eval (.tmp 155) = .bool false := st.done 28 155 (hdep ⟨28, .data⟩ (by simp) rfl) rfl; have e1 : a1.eval (.tmp 167) = .bool false := st.done 40 167 (hdep ⟨40, .data⟩ (by simp) rfl) rfl; exact AnyOrder.step_value rfl (AnyOrder.wanted_none rfl) (.bool false) (by generalize a1.eval = ρ at ec ef e0 e1 ⊢; simp [execOp, ec, ef, e0, e1, IntWalk.i64_left, go_sem]) st.inv (Below.refl _ _) rfl)
            | n + 42, ho => exact absurd hin (by omega)
          · intro wz hJ
            simp only [AnyOrder.finK, List.take_succ_cons, List.take_zero, List.drop_succ_cons, List.drop_zero, Act.put, List.setIfInBounds_toArray, List.set_cons_zero, List.set_cons_succ]
            intro v14 h14 v22 h22
            have HU8 := Lib.hid (HU7.out.step hJ)
            clear HU7 HQ HR HDA HCC HMM hJ h14 h22 hg1 hg2
            have HR := Lib.hid HU8.out.ck; have kx1 := CgAt.k1 HR.out; have HK := Lib.hid (CgAt.kk HR.out)
            by_cases hid : x.k.id = 0
            · have m0 : (x.k.id != 0) = false := by simpa using hid
              have m1 : decide (x.k.id = 0) = true := by simpa using hid
              have HPS : Hid (PS w wz w.heap.size q mb q12 r13 c b o p rv xs (fun z => F z || (decide (z = x.k.id) && (decide (x.k.id ≠ 0) && !livesK x.k))) d o' p' x) := Lib.hid (by
                have e : (fun z => F z || (decide (z = x.k.id) && (decide (x.k.id ≠ 0) && !livesK x.k))) = F := funext fun z => by simp [hid]
                rw [e]; exact HU8.out.ps)
              obtain ⟨rv', W', hpr, hkq, hkd, hrf⟩ := HPS.out.push (by have := HXJ.out; omega) 34
              clear hid HU8 HR HK
              have HRR := Lib.hid hpr; have HKQ := Lib.hid hkq; have HKD := Lib.hid hkd; have HRF := Lib.hid hrf
              clear hpr hkq hkd hrf
              have HCK := Lib.hid HPS.out.ck
              go_wp2_with (first | ((with_reducible apply wpList_load_cg (h := HCK.out)); exact rfl; exact rfl; exact rfl) | ((with_reducible apply wpList_slice_cg (c := x)); exact rfl; exact rfl; exact rfl) | (at_builtin; (refine Lib.wpList_append_run _ rfl (.tmp 183) (.tmp 185) 34 34 rfl _ _ rfl rfl rv' W' HRR.out ?_)) | ((with_reducible apply wpList_load_bk (h := HKD.out)); exact rfl; exact rfl; exact rfl) | ((with_reducible apply wpList_store_bk (b := d) (s := o') (t := p') (hq := HKQ.out)); exact rfl; exact rfl; exact rfl; exact rfl))
              go_roundg (N - (j + 1))
              case measure => have := HG0.out; have := HJ.out; omega
              case rel => exact ⟨j + 1, d, o', p', rv', xs ++ [x], _, by have := HJ.out; omega, by omega, rfl, rfl, rfl, by rw [List.length_append]; have := HXJ.out; simp; omega, HRF.out, HRP2.out⟩
            · have m0 : (x.k.id != 0) = true := by simpa using hid
              have m1 : decide (x.k.id = 0) = false := by simpa using hid
              have CV := Lib.hid (lives_any x.k wz)
              go_wp2_with (first | ((with_reducible apply wpList_load_kpart (c := x.k) (h := HK.out)); exact rfl; exact rfl; exact rfl) | (go_at_call 14; (with_reducible refine CV.out.mono ?_)))
              rintro e0 V9 ⟨rfl, hb9⟩
              have HU9 := Lib.hid (HU8.out.step hb9)
              clear HU8 HR HK kx1 CV hb9
              cases hlv : livesK x.k
              · obtain ⟨V10, hup, hps⟩ := HU9.out.upd (by have := HXJ.out; omega) HWX.out
                have HPS : Hid (PS w V10 w.heap.size q mb q12 r13 c b o p rv xs (fun z => F z || (decide (z = x.k.id) && (decide (x.k.id ≠ 0) && !livesK x.k))) d o' p' x) := Lib.hid (by
                  have e : (fun z => F z || (decide (z = x.k.id) && (decide (x.k.id ≠ 0) && !livesK x.k))) = (fun z => F z || decide (z = x.k.id)) := funext fun z => by simp [hid, hlv]
                  rw [e]; exact hps)
                have HR := Lib.hid HU9.out.ck; have kx1 := CgAt.k1 HR.out
                obtain ⟨rv', W', hpr, hkq, hkd, hrf⟩ := HPS.out.push (by have := HXJ.out; omega) 34
                clear hid HU9 HR hps hlv
                have HRR := Lib.hid hpr; have HKQ := Lib.hid hkq; have HKD := Lib.hid hkd; have HRF := Lib.hid hrf
                clear hpr hkq hkd hrf
                have HCK := Lib.hid HPS.out.ck
                go_wp2_with (first | ((with_reducible apply wpList_load_cg (h := HCK.out)); exact rfl; exact rfl; exact rfl) | ((with_reducible apply wpList_slice_cg (c := x)); exact rfl; exact rfl; exact rfl) | (at_builtin; (refine Lib.wpList_append_run _ rfl (.tmp 183) (.tmp 185) 34 34 rfl _ _ rfl rfl rv' W' HRR.out ?_)) | ((with_reducible apply wpList_load_bk (h := HKD.out)); exact rfl; exact rfl; exact rfl) | ((with_reducible apply wpList_store_bk (b := d) (s := o') (t := p') (hq := HKQ.out)); exact rfl; exact rfl; exact rfl; exact rfl))
                go_roundg (N - (j + 1))
                case measure => have := HG0.out; have := HJ.out; omega
                case rel => exact ⟨j + 1, d, o', p', rv', xs ++ [x], _, by have := HJ.out; omega, by omega, rfl, rfl, rfl, by rw [List.length_append]; have := HXJ.out; simp; omega, HRF.out, HRP2.out⟩
              · have HPS : Hid (PS w V9 w.heap.size q mb q12 r13 c b o p rv xs (fun z => F z || (decide (z = x.k.id) && (decide (x.k.id ≠ 0) && !livesK x.k))) d o' p' x) := Lib.hid (by
                  have e : (fun z => F z || (decide (z = x.k.id) && (decide (x.k.id ≠ 0) && !livesK x.k))) = F := funext fun z => by simp [hlv]
                  rw [e]; exact HU9.out.ps)
                obtain ⟨rv', W', hpr, hkq, hkd, hrf⟩ := HPS.out.push (by have := HXJ.out; omega) 34
                clear hid HU9 hlv
                have HRR := Lib.hid hpr; have HKQ := Lib.hid hkq; have HKD := Lib.hid hkd; have HRF := Lib.hid hrf
                clear hpr hkq hkd hrf
                have HCK := Lib.hid HPS.out.ck
                go_wp2_with (first | ((with_reducible apply wpList_load_cg (h := HCK.out)); exact rfl; exact rfl; exact rfl) | ((with_reducible apply wpList_slice_cg (c := x)); exact rfl; exact rfl; exact rfl) | (at_builtin; (refine Lib.wpList_append_run _ rfl (.tmp 183) (.tmp 185) 34 34 rfl _ _ rfl rfl rv' W' HRR.out ?_)) | ((with_reducible apply wpList_load_bk (h := HKD.out)); exact rfl; exact rfl; exact rfl) | ((with_reducible apply wpList_store_bk (b := d) (s := o') (t := p') (hq := HKQ.out)); exact rfl; exact rfl; exact rfl; exact rfl))
                go_roundg (N - (j + 1))
                case measure => have := HG0.out; have := HJ.out; omega
                case rel => exact ⟨j + 1, d, o', p', rv', xs ++ [x], _, by have := HJ.out; omega, by omega, rfl, rfl, rfl, by rw [List.length_append]; have := HXJ.out; simp; omega, HRF.out, HRP2.out⟩
        · have d0 : decide (e = 0) = false := by simpa using he
          have n0 : (e != 0) = true := by simpa using he
          obtain ⟨rfl, rfl⟩ : d = zb ∧ x = zg := by rcases HRES.out with h | h; exact absurd h.1 he; exact h.2
          clear HRES he
          go_wp2_with (first | ((with_reducible apply wpList_load_bk (h := HG.out)); exact rfl; exact rfl; exact rfl) | (go_at_call 8; (with_reducible refine CL.out.mono ?_)))
          rintro e0 V7 ⟨vl, rfl, hol, hb7⟩
          obtain ⟨OM, cM, rfl⟩ : ∃ O c, vl = .slice O (b.live.map (·.2)).length c := rd_len hol.rd
          rw [HNL.out]
          have HU7 := Lib.hid (HU6.out.step hb7)
          clear HU6 HG CL hb7 hol
          have HQ := Lib.hid HU7.out.dk; have HR := Lib.hid HU7.out.ck; have CI := Lib.hid (index_any zb o' p' V7)
          go_wp2_with (first | ((with_reducible apply wpList_build_zg); exact rfl; exact rfl) | ((with_reducible apply wpList_load_cg (h := HR.out)); exact rfl; exact rfl; exact rfl) | ((with_reducible apply wpList_neq_cg (c := zg) (d := zg) (hb := (show (!zg.beq zg) = false by decide))); exact rfl; exact rfl; exact rfl; exact rfl) | ((with_reducible apply wpList_load_bk (h := HQ.out)); exact rfl; exact rfl; exact rfl) | (go_at_call 7; (with_reducible refine CI.out.mono ?_)))
          rintro e0 V8 ⟨rfl, hb8⟩
          have HU8 := Lib.hid (HU7.out.step hb8)
          clear HU7 HQ HR CI hb8
          have HQ := Lib.hid HU8.out.dk; have CL := Lib.hid (live_any HU8.out.da)
          go_wp2_with (first | ((with_reducible apply wpList_load_bk (h := HQ.out)); exact rfl; exact rfl; exact rfl) | (go_at_call 8; (with_reducible refine CL.out.mono ?_)))
          rintro e0 V9 ⟨vl, rfl, hol, hb9⟩
          obtain ⟨ON, cN, rfl⟩ : ∃ O c, vl = .slice O 0 c := rd_len hol.rd
          have HU9 := Lib.hid (HU8.out.step hb9)
          clear HU8 HQ CL hb9 hol
          go_wp2_with fail
          go_roundg (N - (j + 1))
          case measure => have := HG0.out; have := HJ.out; omega
          case rel => exact ⟨j + 1, b, o, p, _, xs, F, by have := HJ.out; omega, by omega, rfl, rfl, rfl, by have := HXJ.out; omega, HU9.out.rs, HRP.out⟩
    · have hx : (j < N ∧ ¬ j < 60) ∨ ¬ j < N := by omega
      have HC := Lib.hid HRS.out.cat; have hxl := HXJ.out
      have HXL : Hid (xs.length ≤ 60) := Lib.hid (by omega)
      have HRB : Hid (runB (newB c) xs = some b) := Lib.hid HRP.out.run
      have HOK : Hid ((newB c).Ok) := Lib.hid (RPl.new c).ok
      clear HG0 HA HXJ hxl hlt
      rcases hx with ⟨h1, h2⟩ | h1
      all_goals first
        | (have b3 : (j : Int) < (N : Int) := by omega
           have b6 : ¬ (j : Int) < 60 := by omega
           clear h1 h2 hj hj60
           go_upto_region 37 with fail)
        | (have b3 : ¬ (j : Int) < (N : Int) := by omega
           clear h1 hj hj60
           go_upto_region 37 with fail)
      all_goals
        as_aux_lemma =>
        go_upto_region 38 with (first | ((with_reducible apply wpList_load_cat (h := HC.out)); exact rfl; exact rfl; exact rfl) | (go_at_call 6; (with_reducible refine (CN.out _).mono ?_); rintro e v3 ⟨o3, p3, rfl, ha3, hb3⟩) | ((with_reducible apply wpList_store_bknew (b := newB c) (s := o3) (t := p3)); exact rfl; exact rfl; exact rfl; exact rfl))
        have hls := LS.new HRS.out ha3 hb3
        obtain ⟨W4, hW⟩ : ∃ W4, v3.alloc (.cells ((newB c).cells o3 p3) 32) = W4 := ⟨_, rfl⟩
        rw [hW] at hls ⊢; clear hW ha3 hb3 HC b3 b4
        have HLS0 := Lib.hid hls; clear hls HRS
        generalize v3.heap.size = q15 at *
        obtain ⟨OR, cR, hrv⟩ : ∃ O cc, rv = .slice O xs.length cc := by
          obtain ⟨O, cc, e, _⟩ := HLS0.out.row.rd; exact ⟨O, cc, e⟩
        subst hrv
        obtain ⟨M, hM⟩ : ∃ M, xs.length = M := ⟨_, rfl⟩
        rw [hM] at HXL HLS0 ⊢
        have HM := Lib.hid hM; clear hM
        generalize hr0 : newB c = r0 at *
        clear hr0 CN HN HL hmm
        go_wp2_with fail
        go_loopg [16] M (fun gh s16 wx => ∃ (i7 : Nat) (r : Bk) (o2 p2 : Option Addr), i7 ≤ M ∧ gh = M - i7 ∧ s16 = .int .i64 (i7 : Int) ∧ r.Ok ∧ runB r (xs.drop i7) = some b ∧ LS w wx q q15 b o p (.slice OR M cR) xs r o2 p2)
        case atStart => exact ⟨0, r0, o3, p3, Nat.zero_le _, rfl, rfl, HOK.out, HRB.out, HLS0.out⟩
        case round =>
          obtain ⟨i7, r, o2, p2, hi, hg, rfl, hok, hrb, hls⟩ := hrel
          clear HLS0 HOK HRB
          have HG := Lib.hid hg; have HLS := Lib.hid hls; have HOK := Lib.hid hok; clear hg hls hok
          have b4 : (0 : Int) ≤ (i7 : Int) := by omega
          by_cases hlt : i7 < M
          · have b3 : (i7 : Int) < (M : Int) := by omega
            have b6 : (i7 : Int) < 60 := by have := HXL.out; omega
            have hix : i7 < xs.length := by rw [HM.out]; exact hlt
            obtain ⟨x, hx⟩ : ∃ x, xs[i7]? = some x := ⟨_, List.getElem?_eq_getElem hix⟩
            have hdrop : xs.drop i7 = x :: xs.drop (i7 + 1) := by
              rw [List.drop_eq_getElem_cons hix]; congr 1; exact (List.getElem?_eq_some_iff.1 hx).2
            rw [hdrop] at hrb
            obtain ⟨d, hap, hrb2⟩ := runB_cons hrb
            obtain ⟨b1, o1, rfl, l1, k1⟩ := row_at HLS.out.row.rd hx
            have HRB2 := Lib.hid hrb2; have HOK2 := Lib.hid (ok_step HOK.out hap); have HJ := Lib.hid hlt
            have KR := Lib.hid k1; have L1 := Lib.hid l1
            have CY := Lib.hid (fun (W : World) (hb : BAt W r o2 p2) => applyBk_any (x := x) hb HOK.out)
            rw [hap] at CY
            clear hix hx hdrop hrb hap hrb2 k1 l1 hlt hi HOK
            go_upto_region 41 with fail
            refine wp_region_noPanic ?_
            refine AnyOrder.region_late 10 [.eq (r.V o2 p2), .eq (.slice (some ⟨b1, o1, none⟩) M cR), .eq (.int .i64 (i7 : Int)), .eq (ptr b1 (o1 + i7 * 11)), .eq (x.V), .of (DvAt d 0), .of (DvAt d 0), .of (BvAt d), .eq (.int .i64 0), .of (AnyOrder.Fresh wr 32 (zb.cells none none))] [8] (fun wx => Below wr.heap.size wr wx) (by kernel_rfl) (by kernel_rfl) rfl (by kernel_rfl) (by kernel_rfl) (fun _ _ _ _ _ h => h) (below_drewN (Below.refl _ _) 1) (by intro p wa wb hp hj hb v hv; simp at hp; rcases hp with rfl | rfl | rfl | rfl <;> (first | exact DvAt.keep hv hb | exact DvAt.keep hv hb | exact BvAt.keep hv hb | exact AnyOrder.Fresh.keep hv hb | fail)) ?_ ?_ ?_
            · intro f o hL ho
              have hL : f = 8 := by simpa using hL
              rcases hL with rfl
              · injection ho with ho; subst ho; exact ⟨_, rfl, rfl, fun a w hd w9 => by obtain ⟨o4, p4, e18, h18⟩ := hd 6 196 (by decide) (by decide) rfl; generalize a.eval = ρ at e18 ⊢; simp [execOp, e18, go_sem]⟩
            · intro i o listed a1 w2 hin ho st hl hdep
              match i, ho with
              | 0, ho => (injection ho with ho; subst ho; have ec : ∀ v, a1.eval (.const v) = v := fun _ => rfl; have ef : ∀ f, a1.eval (.func f) = .func (.func f) #[] #[] := fun _ => rfl; have e0 : a1.eval (.tmp 15) = ptr q15 0 := st.old hl 15 (by kernel_rfl); exact AnyOrder.step_value rfl (AnyOrder.wanted_none rfl) (r.V o2 p2) (run_load_bk e0 (At.step HLS.out.rk st.inv)) st.inv (Below.refl _ _) rfl)
              | 1, ho => (injection ho with ho; subst ho; have ec : ∀ v, a1.eval (.const v) = v := fun _ => rfl; have ef : ∀ f, a1.eval (.func f) = .func (.func f) #[] #[] := fun _ => rfl; have e0 : a1.eval (.tmp 6) = .slice (some ⟨b1, o1, none⟩) M cR := st.old hl 6 (by kernel_rfl); exact AnyOrder.step_value rfl (AnyOrder.wanted_none rfl) (.slice (some ⟨b1, o1, none⟩) M cR) (AnyOrder.run_move e0) st.inv (Below.refl _ _) rfl)
              | 2, ho => (injection ho with ho; subst ho; have ec : ∀ v, a1.eval (.const v) = v := fun _ => rfl; have ef : ∀ f, a1.eval (.func f) = .func (.func f) #[] #[] := fun _ => rfl; have e0 : a1.eval (.tmp 16) = .int .i64 (i7 : Int) := st.old hl 16 (by kernel_rfl); exact AnyOrder.step_value rfl (AnyOrder.wanted_none rfl) (.int .i64 (i7 : Int)) (AnyOrder.run_move e0) st.inv (Below.refl _ _) rfl)
              | 3, ho => (injection ho with ho; subst ho; have ec : ∀ v, a1.eval (.const v) = v := fun _ => rfl; have ef : ∀ f, a1.eval (.func f) = .func (.func f) #[] #[] := fun _ => rfl; have e0 : a1.eval (.tmp 198) = .slice (some ⟨b1, o1, none⟩) M cR := st.done 1 198 (hdep ⟨1, .data⟩ (by simp) rfl) rfl; have e1 : a1.eval (.tmp 199) = .int .i64 (i7 : Int) := st.done 2 199 (hdep ⟨2, .data⟩ (by simp) rfl) rfl; exact AnyOrder.step_value rfl (AnyOrder.wanted_none rfl) (ptr b1 (o1 + i7 * 11)) (by generalize a1.eval = ρ at ec ef e0 e1 ⊢; simp [execOp, e0, e1, go_sem, b3, b4]) st.inv (Below.refl _ _) rfl)
              | 4, ho => (injection ho with ho; subst ho; have ec : ∀ v, a1.eval (.const v) = v := fun _ => rfl; have ef : ∀ f, a1.eval (.func f) = .func (.func f) #[] #[] := fun _ => rfl; have e0 : a1.eval (.tmp 200) = ptr b1 (o1 + i7 * 11) := st.done 3 200 (hdep ⟨3, .data⟩ (by simp) rfl) rfl; exact AnyOrder.step_value rfl (AnyOrder.wanted_none rfl) (x.V) (run_load_cgr e0 (rng_below KR.out L1.out st.inv)) st.inv (Below.refl _ _) rfl)
              | 5, ho => (injection ho with ho; subst ho; have ec : ∀ v, a1.eval (.const v) = v := fun _ => rfl; have ef : ∀ f, a1.eval (.func f) = .func (.func f) #[] #[] := fun _ => rfl; have e0 : a1.eval (.tmp 197) = r.V o2 p2 := st.done 0 197 (hdep ⟨0, .data⟩ (by simp) rfl) rfl; have e1 : a1.eval (.tmp 201) = x.V := st.done 4 201 (hdep ⟨4, .data⟩ (by simp) rfl) rfl; exact AnyOrder.step_call rfl (AnyOrder.wanted_none rfl) 12 #[r.V o2 p2, x.V] (by generalize a1.eval = ρ at ec ef e0 e1 ⊢; simp [execOp, ec, ef, e0, e1, go_sem]) ((CY.out _ (HLS.out.step st.inv).ra).mono (fun e w4 h => by obtain ⟨o4, p4, rfl, ha, hb⟩ := h; exact ⟨_, rfl, st.inv.trans (hb.mono st.inv.size), hb, o4, p4, rfl, ha⟩)))
              | 6, ho => (injection ho with ho; subst ho; have ec : ∀ v, a1.eval (.const v) = v := fun _ => rfl; have ef : ∀ f, a1.eval (.func f) = .func (.func f) #[] #[] := fun _ => rfl; have e0 := st.done 5 202 (hdep ⟨5, .data⟩ (by simp) rfl) rfl; obtain ⟨v18, e18⟩ : ∃ v, a1.eval (.tmp 202) = v := ⟨_, rfl⟩; rw [e18] at e0; exact AnyOrder.step_value rfl (AnyOrder.wanted_none rfl) v18 (AnyOrder.run_move e18) st.inv (Below.refl _ _) e0)
              | 7, ho => (injection ho with ho; subst ho; have ec : ∀ v, a1.eval (.const v) = v := fun _ => rfl; have ef : ∀ f, a1.eval (.func f) = .func (.func f) #[] #[] := fun _ => rfl; have e0 := st.done 6 196 (hdep ⟨6, .data⟩ (by simp) rfl) rfl; obtain ⟨o4, p4, e18, h18⟩ := e0; exact AnyOrder.step_value rfl (AnyOrder.wanted_none rfl) (d.V o4 p4) (by generalize a1.eval = ρ at ec ef e18 ⊢; simp [execOp, e18, go_sem]) st.inv (Below.refl _ _) ⟨o4, p4, rfl, h18⟩)
              | 8, ho => (injection ho with ho; subst ho; have ec : ∀ v, a1.eval (.const v) = v := fun _ => rfl; have ef : ∀ f, a1.eval (.func f) = .func (.func f) #[] #[] := fun _ => rfl; have e0 := st.done 6 196 (hdep ⟨6, .data⟩ (by simp) rfl) rfl; obtain ⟨o4, p4, e18, h18⟩ := e0; exact AnyOrder.step_value rfl (AnyOrder.wanted_none rfl) _ (by generalize a1.eval = ρ at ec ef e18 ⊢; simp [execOp, e18, go_sem]) st.inv (Below.refl _ _) rfl)
              | 9, ho => (injection ho with ho; subst ho; have ec : ∀ v, a1.eval (.const v) = v := fun _ => rfl; have ef : ∀ f, a1.eval (.func f) = .func (.func f) #[] #[] := fun _ => rfl; exact AnyOrder.step_value rfl (AnyOrder.wanted_none rfl) (ptr w2.heap.size 0) run_alloc32 (st.inv.alloc st.inv.size _) (below_new _ _) ⟨_, rfl, st.inv.size, by simp, heap_alloc_new _ _⟩)
              | n + 10, ho => exact absurd hin (by omega)
            · intro wy hJ
              simp only [AnyOrder.finK, List.take_succ_cons, List.take_zero, List.drop_succ_cons, List.drop_zero, Act.put, List.setIfInBounds_toArray, List.set_cons_zero, List.set_cons_succ]
              intro v5 h5 v6 h6 v7 h7 v9 h9
              clear h5 h6
              obtain ⟨o4, p4, rfl, h4⟩ := h7
              obtain ⟨q17, rfl, l21, l22, l23⟩ := h9
              have HQ1 : Hid (BkAt wy q17 zb none none) := Lib.hid l23
              have lq1 := At.lt HLS.out.bk; have lq2 := At.lt HLS.out.rk; have lq3 := HLS.out.bel.size
              have HS0 := Lib.hid ((HLS.out.step hJ).fresh HQ1.out h4 (by omega) (by omega) (by omega))
              clear h4 l21 l22 l23 hJ lq1 lq2 lq3 HLS
              go_wp2_with ((with_reducible apply wpList_store_bk (b := d) (s := o4) (t := p4) (hq := HQ1.out)); exact rfl; exact rfl; exact rfl; exact rfl)
              refine NoPanic.normal ?_
              obtain ⟨w3, hw3⟩ : ∃ w3, (wy.setRow q17 (d.cells o4 p4)) = w3 := ⟨_, rfl⟩
              rw [hw3] at HS0 ⊢; clear hw3 HQ1
              have HLS := Lib.hid HS0.out.1; have HK1 := Lib.hid HS0.out.2.1; have HQ := Lib.hid HLS.out.rk
              have HL2 := Lib.hid (HLS.out.put HS0.out.2.2)
              clear HS0 HLS
              go_wp2_with (first | ((with_reducible apply wpList_load_bk (h := HK1.out)); exact rfl; exact rfl; exact rfl) | ((with_reducible apply wpList_store_bk (b := d) (s := o4) (t := p4) (hq := HQ.out)); exact rfl; exact rfl; exact rfl; exact rfl))
              go_roundg (M - (i7 + 1))
              case measure => have := HG.out; have := HJ.out; omega
              case rel => exact ⟨i7 + 1, d, o4, p4, by have := HJ.out; omega, by omega, rfl, HOK2.out, HRB2.out, HL2.out⟩
          · obtain rfl : i7 = M := by omega
            have hrb : some r = some b := by
              have h := hrb
              rw [List.drop_of_length_le (by rw [HM.out]; exact Nat.le_refl _)] at h
              exact h
            obtain rfl : r = b := Option.some.inj hrb
            clear hrb hi hlt HOK HG HXL HM
            have b3 : ¬ (i7 : Int) < (i7 : Int) := by omega
            have HB := Lib.hid HLS.out.bk; have CL := Lib.hid (live_any HLS.out.at_)
            go_wp2_with (first | ((with_reducible apply wpList_load_bk (h := HB.out)); exact rfl; exact rfl; exact rfl) | (go_at_call 8; (with_reducible refine CL.out.mono ?_)))
            rintro e0 V5 ⟨vl, rfl, hol, hb5⟩
            obtain ⟨OL, cL, rfl⟩ : ∃ O c, vl = .slice O (r.live.map (·.2)).length c := rd_len hol.rd
            have HL5 := Lib.hid (HLS.out.step hb5); have HLR := Lib.hid hol.rd
            clear HLS HB CL hb5 hol b3
            generalize o = oo at *
            have HRI := Lib.hid HL5.out.at_.1.rise
            have hle := HL5.out.at_.1.le
            obtain ⟨n3, hn3⟩ : ∃ n3, (r.live.map (·.2)).length = n3 := ⟨_, rfl⟩
            rw [hn3] at HLR ⊢
            have HLE : Hid (n3 ≤ 65536) := Lib.hid (by rw [List.length_map] at hn3; omega)
            have HN3 := Lib.hid hn3; clear hn3 hle
            go_wp2_with fail
            go_loopg [20] n3 (fun gh s20 wx => ∃ i8 : Nat, i8 ≤ n3 ∧ gh = n3 - i8 ∧ s20 = .int .i64 (i8 : Int) ∧ Below V5.heap.size V5 wx)
            case atStart => exact ⟨0, Nat.zero_le _, rfl, rfl, Below.refl _ _⟩
            case round =>
              obtain ⟨i8, hi, hg, rfl, hbx⟩ := hrel
              have HL6 := Lib.hid (HL5.out.step hbx); have HLX := Lib.hid (HLR.out.below hbx)
              have HG := Lib.hid hg; have HBX := Lib.hid hbx; clear hg hbx
              have b4 : (0 : Int) ≤ (i8 : Int) := by omega
              by_cases hlt : i8 < n3
              · have b3 : (i8 : Int) < (n3 : Int) := by omega
                have b6 : (i8 : Int) < 65536 := by have := HLE.out; omega
                have hix : i8 < (r.live.map (·.2)).length := by rw [HN3.out]; exact hlt
                obtain ⟨x, hx⟩ : ∃ x, (r.live.map (·.2))[i8]? = some x := ⟨_, List.getElem?_eq_getElem hix⟩
                obtain ⟨z1, z2, z3⟩ := live_rows HRP.out HRI.out hx
                by_cases h0 : i8 = 0
                · obtain ⟨b1, o1, rfl, l1, k1⟩ := rowK_at HLX.out hx
                  have CV : Hid (∀ W, Calls Try.prog 14 #[x.V] W (Yes W true)) := Lib.hid (fun W => by have h := lives_any x W; rwa [z1] at h)
                  have hgx : decide (x.id > r.ix) = false := decide_eq_false (by omega)
                  have ngx : ¬ r.ix < x.id := by omega
                  have HK0 : Hid (wr.cell? ⟨b1, o1 + i8 * 8, none⟩ = some (.int .i64 x.id)) := Lib.hid (k1 0 _ rfl)
                  have KR := Lib.hid k1; have L1 := Lib.hid l1; have HBK := Lib.hid HL6.out.bk; have HJ := Lib.hid hlt
                  have hz : ¬ 0 < i8 := by omega
                  have hz2 : decide ((i8 : Int) > 0) = false := decide_eq_false (by omega)
                  clear k1 l1 hix hx z1 z2 z3 h0 hi hlt
                  go_upto_region 49 with fail
                  refine AnyOrder.region_kinds2 34 [.eq (.slice (some ⟨b1, o1, none⟩) n3 cL), .eq (.int .i64 (i8 : Int)), .eq (ptr b1 (o1 + i8 * 8)), .eq (x.V), .eq (.bool true), .eq (.bool false), .eq (.bool false), .eq (.int .i64 (i8 : Int)), .eq (.bool false), .eq (.bool false), .eq (undef), .eq (undef), .eq (undef), .eq (undef), .eq (undef), .eq (undef), .eq (undef), .eq (undef), .eq (undef), .eq (undef), .eq (undef), .eq (undef), .eq (.bool false), .eq (.bool false), .eq (.bool false), .eq (.slice (some ⟨b1, o1, none⟩) n3 cL), .eq (.int .i64 (i8 : Int)), .eq (ptr b1 (o1 + i8 * 8)), .eq (ptr b1 (o1 + i8 * 8)), .eq (.int .i64 x.id), .eq (r.V oo p), .eq (.int .i64 r.ix), .eq (.bool false), .eq (.bool false)] (fun wx => Below wr.heap.size wr wx) (by kernel_rfl) (by kernel_rfl) rfl (by kernel_rfl) (below_drewN (Below.refl _ _) 1) (fun p _ _ hp => by simp at hp) ?_ ?_
                  · intro i o listed a1 w2 hin ho st hl hdep
                    match i, ho with
                    | 0, ho => (injection ho with ho; subst ho; have ec : ∀ v, a1.eval (.const v) = v := fun _ => rfl; have ef : ∀ f, a1.eval (.func f) = .func (.func f) #[] #[] := fun _ => rfl; have e0 : a1.eval (.tmp 19) = .slice (some ⟨b1, o1, none⟩) n3 cL := st.old hl 19 (by kernel_rfl); exact AnyOrder.step_value rfl (AnyOrder.wanted_none rfl) (.slice (some ⟨b1, o1, none⟩) n3 cL) (AnyOrder.run_move e0) st.inv (Below.refl _ _) rfl)
                    | 1, ho => (injection ho with ho; subst ho; have ec : ∀ v, a1.eval (.const v) = v := fun _ => rfl; have ef : ∀ f, a1.eval (.func f) = .func (.func f) #[] #[] := fun _ => rfl; have e0 : a1.eval (.tmp 20) = .int .i64 (i8 : Int) := st.old hl 20 (by kernel_rfl); exact AnyOrder.step_value rfl (AnyOrder.wanted_none rfl) (.int .i64 (i8 : Int)) (AnyOrder.run_move e0) st.inv (Below.refl _ _) rfl)
                    | 2, ho => (injection ho with ho; subst ho; have ec : ∀ v, a1.eval (.const v) = v := fun _ => rfl; have ef : ∀ f, a1.eval (.func f) = .func (.func f) #[] #[] := fun _ => rfl; have e0 : a1.eval (.tmp 216) = .slice (some ⟨b1, o1, none⟩) n3 cL := st.done 0 216 (hdep ⟨0, .data⟩ (by simp) rfl) rfl; have e1 : a1.eval (.tmp 217) = .int .i64 (i8 : Int) := st.done 1 217 (hdep ⟨1, .data⟩ (by simp) rfl) rfl; exact AnyOrder.step_value rfl (AnyOrder.wanted_none rfl) (ptr b1 (o1 + i8 * 8)) (by generalize a1.eval = ρ at ec ef e0 e1 ⊢; simp [execOp, e0, e1, go_sem, b3, b4]) st.inv (Below.refl _ _) rfl)
                    | 3, ho => (injection ho with ho; subst ho; have ec : ∀ v, a1.eval (.const v) = v := fun _ => rfl; have ef : ∀ f, a1.eval (.func f) = .func (.func f) #[] #[] := fun _ => rfl; have e0 : a1.eval (.tmp 218) = ptr b1 (o1 + i8 * 8) := st.done 2 218 (hdep ⟨2, .data⟩ (by simp) rfl) rfl; exact AnyOrder.step_value rfl (AnyOrder.wanted_none rfl) (x.V) (run_load_kp e0 (rng_below KR.out L1.out st.inv)) st.inv (Below.refl _ _) rfl)
                    | 4, ho => (injection ho with ho; subst ho; have ec : ∀ v, a1.eval (.const v) = v := fun _ => rfl; have ef : ∀ f, a1.eval (.func f) = .func (.func f) #[] #[] := fun _ => rfl; have e0 : a1.eval (.tmp 219) = x.V := st.done 3 219 (hdep ⟨3, .data⟩ (by simp) rfl) rfl; exact AnyOrder.step_call rfl (AnyOrder.wanted_none rfl) 14 #[x.V] (by generalize a1.eval = ρ at ec ef e0 ⊢; simp [execOp, ec, ef, e0, go_sem]) ((CV.out w2).mono (fun e w3 h => by obtain ⟨rfl, hb⟩ := h; exact ⟨_, rfl, st.inv.trans (hb.mono st.inv.size), hb, rfl⟩)))
                    | 5, ho => (injection ho with ho; subst ho; have ec : ∀ v, a1.eval (.const v) = v := fun _ => rfl; have ef : ∀ f, a1.eval (.func f) = .func (.func f) #[] #[] := fun _ => rfl; have e0 : a1.eval (.tmp 220) = .bool true := st.done 4 220 (hdep ⟨4, .data⟩ (by simp) rfl) rfl; exact AnyOrder.step_value rfl (AnyOrder.wanted_none rfl) (.bool false) (by generalize a1.eval = ρ at ec ef e0 ⊢; simp [execOp, ec, ef, e0, IntWalk.i64_left, go_sem]) st.inv (Below.refl _ _) rfl)
                    | 6, ho => (injection ho with ho; subst ho; have ec : ∀ v, a1.eval (.const v) = v := fun _ => rfl; have ef : ∀ f, a1.eval (.func f) = .func (.func f) #[] #[] := fun _ => rfl; have e0 : a1.eval (.tmp 221) = .bool false := st.done 5 221 (hdep ⟨5, .data⟩ (by simp) rfl) rfl; exact AnyOrder.step_value rfl (AnyOrder.wanted_none rfl) (.bool false) (AnyOrder.run_move e0) st.inv (Below.refl _ _) rfl)
                    | 7, ho => (injection ho with ho; subst ho; have ec : ∀ v, a1.eval (.const v) = v := fun _ => rfl; have ef : ∀ f, a1.eval (.func f) = .func (.func f) #[] #[] := fun _ => rfl; have e0 : a1.eval (.tmp 20) = .int .i64 (i8 : Int) := st.old hl 20 (by kernel_rfl); have eg : a1.eval (.tmp 222) = .bool false := st.done 6 222 (hdep ⟨6, .guard⟩ (by simp) rfl) rfl; exact AnyOrder.step_value rfl ((AnyOrder.wanted_of rfl rfl eg).trans rfl) (.int .i64 (i8 : Int)) (AnyOrder.run_move e0) st.inv (Below.refl _ _) rfl)
                    | 8, ho => (injection ho with ho; subst ho; have ec : ∀ v, a1.eval (.const v) = v := fun _ => rfl; have ef : ∀ f, a1.eval (.func f) = .func (.func f) #[] #[] := fun _ => rfl; have e0 : a1.eval (.tmp 223) = .int .i64 (i8 : Int) := st.done 7 223 (hdep ⟨7, .data⟩ (by simp) rfl) rfl; have eg : a1.eval (.tmp 222) = .bool false := st.done 6 222 (hdep ⟨6, .guard⟩ (by simp) rfl) rfl; exact AnyOrder.step_value rfl ((AnyOrder.wanted_of rfl rfl eg).trans rfl) (.bool false) (by generalize a1.eval = ρ at ec ef e0 ⊢; simp [execOp, ec, ef, e0, IntWalk.i64_left, hz, hz2, go_sem]) st.inv (Below.refl _ _) rfl)
                    | 9, ho => (injection ho with ho; subst ho; have ec : ∀ v, a1.eval (.const v) = v := fun _ => rfl; have ef : ∀ f, a1.eval (.func f) = .func (.func f) #[] #[] := fun _ => rfl; have e0 : a1.eval (.tmp 224) = .bool false := st.done 8 224 (hdep ⟨8, .data⟩ (by simp) rfl) rfl; have eg : a1.eval (.tmp 222) = .bool false := st.done 6 222 (hdep ⟨6, .chain⟩ (by simp) rfl) rfl; exact AnyOrder.step_value rfl ((AnyOrder.wanted_of rfl rfl eg).trans rfl) (.bool false) (AnyOrder.run_move e0) st.inv (Below.refl _ _) rfl)
                    | 10, ho => (injection ho with ho; subst ho; have ec : ∀ v, a1.eval (.const v) = v := fun _ => rfl; have ef : ∀ f, a1.eval (.func f) = .func (.func f) #[] #[] := fun _ => rfl; have eg : a1.eval (.tmp 225) = .bool false := st.done 9 225 (hdep ⟨9, .guard⟩ (by simp) rfl) rfl; exact AnyOrder.step_skip rfl ((AnyOrder.wanted_of rfl rfl eg).trans rfl) st.inv rfl)
                    | 11, ho => (injection ho with ho; subst ho; have ec : ∀ v, a1.eval (.const v) = v := fun _ => rfl; have ef : ∀ f, a1.eval (.func f) = .func (.func f) #[] #[] := fun _ => rfl; have eg : a1.eval (.tmp 225) = .bool false := st.done 9 225 (hdep ⟨9, .guard⟩ (by simp) rfl) rfl; exact AnyOrder.step_skip rfl ((AnyOrder.wanted_of rfl rfl eg).trans rfl) st.inv rfl)
                    | 12, ho => (injection ho with ho; subst ho; have ec : ∀ v, a1.eval (.const v) = v := fun _ => rfl; have ef : ∀ f, a1.eval (.func f) = .func (.func f) #[] #[] := fun _ => rfl; have eg : a1.eval (.tmp 225) = .bool false := st.done 9 225 (hdep ⟨9, .guard⟩ (by simp) rfl) rfl; exact AnyOrder.step_skip rfl ((AnyOrder.wanted_of rfl rfl eg).trans rfl) st.inv rfl)
                    | 13, ho => (injection ho with ho; subst ho; have ec : ∀ v, a1.eval (.const v) = v := fun _ => rfl; have ef : ∀ f, a1.eval (.func f) = .func (.func f) #[] #[] := fun _ => rfl; have eg : a1.eval (.tmp 225) = .bool false := st.done 9 225 (hdep ⟨9, .guard⟩ (by simp) rfl) rfl; exact AnyOrder.step_skip rfl ((AnyOrder.wanted_of rfl rfl eg).trans rfl) st.inv rfl)
                    | 14, ho => (injection ho with ho; subst ho; have ec : ∀ v, a1.eval (.const v) = v := fun _ => rfl; have ef : ∀ f, a1.eval (.func f) = .func (.func f) #[] #[] := fun _ => rfl; have eg : a1.eval (.tmp 225) = .bool false := st.done 9 225 (hdep ⟨9, .guard⟩ (by simp) rfl) rfl; exact AnyOrder.step_skip rfl ((AnyOrder.wanted_of rfl rfl eg).trans rfl) st.inv rfl)
                    | 15, ho => (injection ho with ho; subst ho; have ec : ∀ v, a1.eval (.const v) = v := fun _ => rfl; have ef : ∀ f, a1.eval (.func f) = .func (.func f) #[] #[] := fun _ => rfl; have eg : a1.eval (.tmp 225) = .bool false := st.done 9 225 (hdep ⟨9, .guard⟩ (by simp) rfl) rfl; exact AnyOrder.step_skip rfl ((AnyOrder.wanted_of rfl rfl eg).trans rfl) st.inv rfl)
                    | 16, ho => (injection ho with ho; subst ho; have ec : ∀ v, a1.eval (.const v) = v := fun _ => rfl; have ef : ∀ f, a1.eval (.func f) = .func (.func f) #[] #[] := fun _ => rfl; have eg : a1.eval (.tmp 225) = .bool false := st.done 9 225 (hdep ⟨9, .guard⟩ (by simp) rfl) rfl; exact AnyOrder.step_skip rfl ((AnyOrder.wanted_of rfl rfl eg).trans rfl) st.inv rfl)
                    | 17, ho => (injection ho with ho; subst ho; have ec : ∀ v, a1.eval (.const v) = v := fun _ => rfl; have ef : ∀ f, a1.eval (.func f) = .func (.func f) #[] #[] := fun _ => rfl; have eg : a1.eval (.tmp 225) = .bool false := st.done 9 225 (hdep ⟨9, .guard⟩ (by simp) rfl) rfl; exact AnyOrder.step_skip rfl ((AnyOrder.wanted_of rfl rfl eg).trans rfl) st.inv rfl)
                    | 18, ho => (injection ho with ho; subst ho; have ec : ∀ v, a1.eval (.const v) = v := fun _ => rfl; have ef : ∀ f, a1.eval (.func f) = .func (.func f) #[] #[] := fun _ => rfl; have eg : a1.eval (.tmp 225) = .bool false := st.done 9 225 (hdep ⟨9, .guard⟩ (by simp) rfl) rfl; exact AnyOrder.step_skip rfl ((AnyOrder.wanted_of rfl rfl eg).trans rfl) st.inv rfl)
                    | 19, ho => (injection ho with ho; subst ho; have ec : ∀ v, a1.eval (.const v) = v := fun _ => rfl; have ef : ∀ f, a1.eval (.func f) = .func (.func f) #[] #[] := fun _ => rfl; have eg : a1.eval (.tmp 225) = .bool false := st.done 9 225 (hdep ⟨9, .guard⟩ (by simp) rfl) rfl; exact AnyOrder.step_skip rfl ((AnyOrder.wanted_of rfl rfl eg).trans rfl) st.inv rfl)
                    | 20, ho => (injection ho with ho; subst ho; have ec : ∀ v, a1.eval (.const v) = v := fun _ => rfl; have ef : ∀ f, a1.eval (.func f) = .func (.func f) #[] #[] := fun _ => rfl; have eg : a1.eval (.tmp 225) = .bool false := st.done 9 225 (hdep ⟨9, .guard⟩ (by simp) rfl) rfl; exact AnyOrder.step_skip rfl ((AnyOrder.wanted_of rfl rfl eg).trans rfl) st.inv rfl)
                    | 21, ho => (injection ho with ho; subst ho; have ec : ∀ v, a1.eval (.const v) = v := fun _ => rfl; have ef : ∀ f, a1.eval (.func f) = .func (.func f) #[] #[] := fun _ => rfl; have eg : a1.eval (.tmp 225) = .bool false := st.done 9 225 (hdep ⟨9, .guard⟩ (by simp) rfl) rfl; exact AnyOrder.step_skip rfl ((AnyOrder.wanted_of rfl rfl eg).trans rfl) st.inv rfl)
                    | 22, ho => (injection ho with ho; subst ho; have ec : ∀ v, a1.eval (.const v) = v := fun _ => rfl; have ef : ∀ f, a1.eval (.func f) = .func (.func f) #[] #[] := fun _ => rfl; have e0 : a1.eval (.tmp 225) = .bool false := st.done 9 225 (hdep ⟨9, .data⟩ (by simp) rfl) rfl; have e1 : a1.eval (.tmp 237) = undef := st.done 21 237 (hdep ⟨21, .data⟩ (by simp) rfl) rfl; have eg : a1.eval (.tmp 222) = .bool false := st.done 6 222 (hdep ⟨6, .guard⟩ (by simp) rfl) rfl; exact AnyOrder.step_value rfl ((AnyOrder.wanted_of rfl rfl eg).trans rfl) (.bool false) (by generalize a1.eval = ρ at ec ef e0 e1 ⊢; simp [execOp, ec, ef, e0, e1, IntWalk.i64_left, go_sem]) st.inv (Below.refl _ _) rfl)
                    | 23, ho => (injection ho with ho; subst ho; have ec : ∀ v, a1.eval (.const v) = v := fun _ => rfl; have ef : ∀ f, a1.eval (.func f) = .func (.func f) #[] #[] := fun _ => rfl; have e0 : a1.eval (.tmp 222) = .bool false := st.done 6 222 (hdep ⟨6, .data⟩ (by simp) rfl) rfl; have e1 : a1.eval (.tmp 238) = .bool false := st.done 22 238 (hdep ⟨22, .data⟩ (by simp) rfl) rfl; exact AnyOrder.step_value rfl (AnyOrder.wanted_none rfl) (.bool false) (by generalize a1.eval = ρ at ec ef e0 e1 ⊢; simp [execOp, ec, ef, e0, e1, IntWalk.i64_left, go_sem]) st.inv (Below.refl _ _) rfl)
                    | 24, ho => (injection ho with ho; subst ho; have ec : ∀ v, a1.eval (.const v) = v := fun _ => rfl; have ef : ∀ f, a1.eval (.func f) = .func (.func f) #[] #[] := fun _ => rfl; have e0 : a1.eval (.tmp 239) = .bool false := st.done 23 239 (hdep ⟨23, .data⟩ (by simp) rfl) rfl; exact AnyOrder.step_value rfl (AnyOrder.wanted_none rfl) (.bool false) (AnyOrder.run_move e0) st.inv (Below.refl _ _) rfl)
                    | 25, ho => (injection ho with ho; subst ho; have ec : ∀ v, a1.eval (.const v) = v := fun _ => rfl; have ef : ∀ f, a1.eval (.func f) = .func (.func f) #[] #[] := fun _ => rfl; have e0 : a1.eval (.tmp 19) = .slice (some ⟨b1, o1, none⟩) n3 cL := st.old hl 19 (by kernel_rfl); have eg : a1.eval (.tmp 240) = .bool false := st.done 24 240 (hdep ⟨24, .guard⟩ (by simp) rfl) rfl; exact AnyOrder.step_value rfl ((AnyOrder.wanted_of rfl rfl eg).trans rfl) (.slice (some ⟨b1, o1, none⟩) n3 cL) (AnyOrder.run_move e0) st.inv (Below.refl _ _) rfl)
                    | 26, ho => (injection ho with ho; subst ho; have ec : ∀ v, a1.eval (.const v) = v := fun _ => rfl; have ef : ∀ f, a1.eval (.func f) = .func (.func f) #[] #[] := fun _ => rfl; have e0 : a1.eval (.tmp 20) = .int .i64 (i8 : Int) := st.old hl 20 (by kernel_rfl); have eg : a1.eval (.tmp 240) = .bool false := st.done 24 240 (hdep ⟨24, .guard⟩ (by simp) rfl) rfl; exact AnyOrder.step_value rfl ((AnyOrder.wanted_of rfl rfl eg).trans rfl) (.int .i64 (i8 : Int)) (AnyOrder.run_move e0) st.inv (Below.refl _ _) rfl)
                    | 27, ho => (injection ho with ho; subst ho; have ec : ∀ v, a1.eval (.const v) = v := fun _ => rfl; have ef : ∀ f, a1.eval (.func f) = .func (.func f) #[] #[] := fun _ => rfl; have e0 : a1.eval (.tmp 241) = .slice (some ⟨b1, o1, none⟩) n3 cL := st.done 25 241 (hdep ⟨25, .data⟩ (by simp) rfl) rfl; have e1 : a1.eval (.tmp 242) = .int .i64 (i8 : Int) := st.done 26 242 (hdep ⟨26, .data⟩ (by simp) rfl) rfl; have eg : a1.eval (.tmp 240) = .bool false := st.done 24 240 (hdep ⟨24, .guard⟩ (by simp) rfl) rfl; exact AnyOrder.step_value rfl ((AnyOrder.wanted_of rfl rfl eg).trans rfl) (ptr b1 (o1 + i8 * 8)) (by generalize a1.eval = ρ at ec ef e0 e1 ⊢; simp [execOp, e0, e1, go_sem, b3, b4]) st.inv (Below.refl _ _) rfl)
                    | 28, ho => (injection ho with ho; subst ho; have ec : ∀ v, a1.eval (.const v) = v := fun _ => rfl; have ef : ∀ f, a1.eval (.func f) = .func (.func f) #[] #[] := fun _ => rfl; have e0 : a1.eval (.tmp 243) = ptr b1 (o1 + i8 * 8) := st.done 27 243 (hdep ⟨27, .data⟩ (by simp) rfl) rfl; have eg : a1.eval (.tmp 240) = .bool false := st.done 24 240 (hdep ⟨24, .guard⟩ (by simp) rfl) rfl; exact AnyOrder.step_value rfl ((AnyOrder.wanted_of rfl rfl eg).trans rfl) (ptr b1 (o1 + i8 * 8)) (by generalize a1.eval = ρ at ec ef e0 ⊢; simp [execOp, ec, ef, e0, IntWalk.i64_left, go_sem]) st.inv (Below.refl _ _) rfl)
                    | 29, ho => (injection ho with ho; subst ho; have ec : ∀ v, a1.eval (.const v) = v := fun _ => rfl; have ef : ∀ f, a1.eval (.func f) = .func (.func f) #[] #[] := fun _ => rfl; have e0 : a1.eval (.tmp 244) = ptr b1 (o1 + i8 * 8) := st.done 28 244 (hdep ⟨28, .data⟩ (by simp) rfl) rfl; have eg : a1.eval (.tmp 240) = .bool false := st.done 24 240 (hdep ⟨24, .guard⟩ (by simp) rfl) rfl; exact AnyOrder.step_value rfl ((AnyOrder.wanted_of rfl rfl eg).trans rfl) (.int .i64 x.id) (by have hk := (st.inv.cell (p := ⟨b1, _, none⟩) L1.out).trans HK0.out; generalize a1.eval = ρ at ec ef e0 ⊢; simp [execOp, e0, go_sem, hk]) st.inv (Below.refl _ _) rfl)
                    | 30, ho => (injection ho with ho; subst ho; have ec : ∀ v, a1.eval (.const v) = v := fun _ => rfl; have ef : ∀ f, a1.eval (.func f) = .func (.func f) #[] #[] := fun _ => rfl; have e0 : a1.eval (.tmp 5) = ptr q 0 := st.old hl 5 (by kernel_rfl); have eg : a1.eval (.tmp 240) = .bool false := st.done 24 240 (hdep ⟨24, .guard⟩ (by simp) rfl) rfl; exact AnyOrder.step_value rfl ((AnyOrder.wanted_of rfl rfl eg).trans rfl) (r.V oo p) (run_load_bk e0 (At.step HBK.out st.inv)) st.inv (Below.refl _ _) rfl)
                    | 31, ho => (injection ho with ho; subst ho; have ec : ∀ v, a1.eval (.const v) = v := fun _ => rfl; have ef : ∀ f, a1.eval (.func f) = .func (.func f) #[] #[] := fun _ => rfl; have e0 : a1.eval (.tmp 246) = r.V oo p := st.done 30 246 (hdep ⟨30, .data⟩ (by simp) rfl) rfl; have eg : a1.eval (.tmp 240) = .bool false := st.done 24 240 (hdep ⟨24, .chain⟩ (by simp) rfl) rfl; exact AnyOrder.step_call rfl ((AnyOrder.wanted_of rfl rfl eg).trans rfl) 7 #[r.V oo p] (by generalize a1.eval = ρ at ec ef e0 ⊢; simp [execOp, ec, ef, e0, go_sem]) ((index_any r oo p w2).mono (fun e w3 h => by obtain ⟨rfl, hb⟩ := h; exact ⟨_, rfl, st.inv.trans (hb.mono st.inv.size), hb, rfl⟩)))
                    | 32, ho => (injection ho with ho; subst ho; have ec : ∀ v, a1.eval (.const v) = v := fun _ => rfl; have ef : ∀ f, a1.eval (.func f) = .func (.func f) #[] #[] := fun _ => rfl; have e0 : a1.eval (.tmp 245) = .int .i64 x.id := st.done 29 245 (hdep ⟨29, .data⟩ (by simp) rfl) rfl; have e1 : a1.eval (.tmp 247) = .int .i64 r.ix := st.done 31 247 (hdep ⟨31, .data⟩ (by simp) rfl) rfl; have eg : a1.eval (.tmp 240) = .bool false := st.done 24 240 (hdep ⟨24, .guard⟩ (by simp) rfl) rfl; exact AnyOrder.step_value rfl ((AnyOrder.wanted_of rfl rfl eg).trans rfl) (.bool false) (by generalize a1.eval = ρ at ec ef e0 e1 ⊢; simp [execOp, ec, ef, e0, e1, IntWalk.i64_left, hgx, ngx, go_sem]) st.inv (Below.refl _ _) rfl)
                    | 33, ho => (injection ho with ho; subst ho; have ec : ∀ v, a1.eval (.const v) = v := fun _ => rfl; have ef : ∀ f, a1.eval (.func f) = .func (.func f) #[] #[] := fun _ => rfl; have e0 : a1.eval (.tmp 240) = .bool false := st.done 24 240 (hdep ⟨24, .data⟩ (by simp) rfl) rfl; have e1 : a1.eval (.tmp 248) = .bool false := st.done 32 248 (hdep ⟨32, .data⟩ (by simp) rfl) rfl; exact AnyOrder.step_value rfl (AnyOrder.wanted_none rfl) (.bool false) (by generalize a1.eval = ρ at ec ef e0 e1 ⊢; simp [execOp, ec, ef, e0, e1, IntWalk.i64_left, go_sem]) st.inv (Below.refl _ _) rfl)
                    | n + 34, ho => exact absurd hin (by omega)
                  · intro wy hJ
                    simp only [AnyOrder.finK, List.take_succ_cons, List.take_zero, List.drop_succ_cons, List.drop_zero, Act.put, List.setIfInBounds_toArray, List.set_cons_zero, List.set_cons_succ]
                    go_wp2_with fail
                    go_roundg (n3 - (i8 + 1))
                    case measure => have := HG.out; have := HJ.out; omega
                    case rel => exact ⟨i8 + 1, by have := HJ.out; omega, by omega, (by first | rfl | (rw [IntWalk.wrap64_in _ (by omega)]; rfl)), HBX.out.trans (hJ.mono HBX.out.size)⟩
                · obtain ⟨k8, hk8⟩ : ∃ k8, i8 - 1 = k8 := ⟨_, rfl⟩
                  have hky : k8 < (r.live.map (·.2)).length := by omega
                  obtain ⟨y, hy⟩ : ∃ y, (r.live.map (·.2))[k8]? = some y := ⟨_, List.getElem?_eq_getElem hky⟩
                  obtain ⟨b1, o1, rfl, l1, k1⟩ := rowK_at HLX.out hx
                  have HK1 : Hid (wr.cell? ⟨b1, o1 + k8 * 8, none⟩ = some (.int .i64 y.id)) := Lib.hid (by
                    obtain ⟨b2, o2', e2, _, k2⟩ := rowK_at HLX.out hy
                    injection e2 with e2
                    injection e2 with e3 e4
                    subst e3; subst e4
                    exact k2 0 _ rfl)
                  have hlo := z3 y (by omega) (by rw [hk8]; exact hy)
                  have CV : Hid (∀ W, Calls Try.prog 14 #[x.V] W (Yes W true)) := Lib.hid (fun W => by have h := lives_any x W; rwa [z1] at h)
                  have hgx : decide (x.id > r.ix) = false := decide_eq_false (by omega)
                  have ngx : ¬ r.ix < x.id := by omega
                  have hyx : decide (y.id ≥ x.id) = false := decide_eq_false (by omega)
                  have nyx : ¬ x.id ≤ y.id := by omega
                  have b5 : (k8 : Int) < (n3 : Int) := by omega
                  have b7 : (0 : Int) ≤ (k8 : Int) := by omega
                  have hsub : IntKind.i64.wrap ((i8 : Int) - 1) = (k8 : Int) := by rw [IntWalk.i64_in _ (by omega)]; omega
                  have HK0 : Hid (wr.cell? ⟨b1, o1 + i8 * 8, none⟩ = some (.int .i64 x.id)) := Lib.hid (k1 0 _ rfl)
                  have KR := Lib.hid k1; have L1 := Lib.hid l1; have HBK := Lib.hid HL6.out.bk; have HJ := Lib.hid hlt
                  have hz : 0 < i8 := by omega
                  have hz2 : decide ((i8 : Int) > 0) = true := decide_eq_true (by omega)
                  clear k1 l1 hix hx hy hky z1 z2 z3 h0 hi hlt hlo hk8
                  go_upto_region 49 with fail
                  refine AnyOrder.region_kinds2 34 [.eq (.slice (some ⟨b1, o1, none⟩) n3 cL), .eq (.int .i64 (i8 : Int)), .eq (ptr b1 (o1 + i8 * 8)), .eq (x.V), .eq (.bool true), .eq (.bool false), .eq (.bool false), .eq (.int .i64 (i8 : Int)), .eq (.bool true), .eq (.bool true), .eq (.slice (some ⟨b1, o1, none⟩) n3 cL), .eq (.int .i64 (i8 : Int)), .eq (.int .i64 (k8 : Int)), .eq (ptr b1 (o1 + k8 * 8)), .eq (ptr b1 (o1 + k8 * 8)), .eq (.int .i64 y.id), .eq (.slice (some ⟨b1, o1, none⟩) n3 cL), .eq (.int .i64 (i8 : Int)), .eq (ptr b1 (o1 + i8 * 8)), .eq (ptr b1 (o1 + i8 * 8)), .eq (.int .i64 x.id), .eq (.bool false), .eq (.bool false), .eq (.bool false), .eq (.bool false), .eq (.slice (some ⟨b1, o1, none⟩) n3 cL), .eq (.int .i64 (i8 : Int)), .eq (ptr b1 (o1 + i8 * 8)), .eq (ptr b1 (o1 + i8 * 8)), .eq (.int .i64 x.id), .eq (r.V oo p), .eq (.int .i64 r.ix), .eq (.bool false), .eq (.bool false)] (fun wx => Below wr.heap.size wr wx) (by kernel_rfl) (by kernel_rfl) rfl (by kernel_rfl) (below_drewN (Below.refl _ _) 1) (fun p _ _ hp => by simp at hp) ?_ ?_
                  · intro i o listed a1 w2 hin ho st hl hdep
                    match i, ho with
                    | 0, ho => (injection ho with ho; subst ho; have ec : ∀ v, a1.eval (.const v) = v := fun _ => rfl; have ef : ∀ f, a1.eval (.func f) = .func (.func f) #[] #[] := fun _ => rfl; have e0 : a1.eval (.tmp 19) = .slice (some ⟨b1, o1, none⟩) n3 cL := st.old hl 19 (by kernel_rfl); exact AnyOrder.step_value rfl (AnyOrder.wanted_none rfl) (.slice (some ⟨b1, o1, none⟩) n3 cL) (AnyOrder.run_move e0) st.inv (Below.refl _ _) rfl)
                    | 1, ho => (injection ho with ho; subst ho; have ec : ∀ v, a1.eval (.const v) = v := fun _ => rfl; have ef : ∀ f, a1.eval (.func f) = .func (.func f) #[] #[] := fun _ => rfl; have e0 : a1.eval (.tmp 20) = .int .i64 (i8 : Int) := st.old hl 20 (by kernel_rfl); exact AnyOrder.step_value rfl (AnyOrder.wanted_none rfl) (.int .i64 (i8 : Int)) (AnyOrder.run_move e0) st.inv (Below.refl _ _) rfl)
                    | 2, ho => (injection ho with ho; subst ho; have ec : ∀ v, a1.eval (.const v) = v := fun _ => rfl; have ef : ∀ f, a1.eval (.func f) = .func (.func f) #[] #[] := fun _ => rfl; have e0 : a1.eval (.tmp 216) = .slice (some ⟨b1, o1, none⟩) n3 cL := st.done 0 216 (hdep ⟨0, .data⟩ (by simp) rfl) rfl; have e1 : a1.eval (.tmp 217) = .int .i64 (i8 : Int) := st.done 1 217 (hdep ⟨1, .data⟩ (by simp) rfl) rfl; exact AnyOrder.step_value rfl (AnyOrder.wanted_none rfl) (ptr b1 (o1 + i8 * 8)) (by generalize a1.eval = ρ at ec ef e0 e1 ⊢; simp [execOp, e0, e1, go_sem, b3, b4]) st.inv (Below.refl _ _) rfl)
                    | 3, ho => (injection ho with ho; subst ho; have ec : ∀ v, a1.eval (.const v) = v := fun _ => rfl; have ef : ∀ f, a1.eval (.func f) = .func (.func f) #[] #[] := fun _ => rfl; have e0 : a1.eval (.tmp 218) = ptr b1 (o1 + i8 * 8) := st.done 2 218 (hdep ⟨2, .data⟩ (by simp) rfl) rfl; exact AnyOrder.step_value rfl (AnyOrder.wanted_none rfl) (x.V) (run_load_kp e0 (rng_below KR.out L1.out st.inv)) st.inv (Below.refl _ _) rfl)
                    | 4, ho => (injection ho with ho; subst ho; have ec : ∀ v, a1.eval (.const v) = v := fun _ => rfl; have ef : ∀ f, a1.eval (.func f) = .func (.func f) #[] #[] := fun _ => rfl; have e0 : a1.eval (.tmp 219) = x.V := st.done 3 219 (hdep ⟨3, .data⟩ (by simp) rfl) rfl; exact AnyOrder.step_call rfl (AnyOrder.wanted_none rfl) 14 #[x.V] (by generalize a1.eval = ρ at ec ef e0 ⊢; simp [execOp, ec, ef, e0, go_sem]) ((CV.out w2).mono (fun e w3 h => by obtain ⟨rfl, hb⟩ := h; exact ⟨_, rfl, st.inv.trans (hb.mono st.inv.size), hb, rfl⟩)))
                    | 5, ho => (injection ho with ho; subst ho; have ec : ∀ v, a1.eval (.const v) = v := fun _ => rfl; have ef : ∀ f, a1.eval (.func f) = .func (.func f) #[] #[] := fun _ => rfl; have e0 : a1.eval (.tmp 220) = .bool true := st.done 4 220 (hdep ⟨4, .data⟩ (by simp) rfl) rfl; exact AnyOrder.step_value rfl (AnyOrder.wanted_none rfl) (.bool false) (by generalize a1.eval = ρ at ec ef e0 ⊢; simp [execOp, ec, ef, e0, IntWalk.i64_left, go_sem]) st.inv (Below.refl _ _) rfl)
                    | 6, ho => (injection ho with ho; subst ho; have ec : ∀ v, a1.eval (.const v) = v := fun _ => rfl; have ef : ∀ f, a1.eval (.func f) = .func (.func f) #[] #[] := fun _ => rfl; have e0 : a1.eval (.tmp 221) = .bool false := st.done 5 221 (hdep ⟨5, .data⟩ (by simp) rfl) rfl; exact AnyOrder.step_value rfl (AnyOrder.wanted_none rfl) (.bool false) (AnyOrder.run_move e0) st.inv (Below.refl _ _) rfl)
                    | 7, ho => (injection ho with ho; subst ho; have ec : ∀ v, a1.eval (.const v) = v := fun _ => rfl; have ef : ∀ f, a1.eval (.func f) = .func (.func f) #[] #[] := fun _ => rfl; have e0 : a1.eval (.tmp 20) = .int .i64 (i8 : Int) := st.old hl 20 (by kernel_rfl); have eg : a1.eval (.tmp 222) = .bool false := st.done 6 222 (hdep ⟨6, .guard⟩ (by simp) rfl) rfl; exact AnyOrder.step_value rfl ((AnyOrder.wanted_of rfl rfl eg).trans rfl) (.int .i64 (i8 : Int)) (AnyOrder.run_move e0) st.inv (Below.refl _ _) rfl)
                    | 8, ho => (injection ho with ho; subst ho; have ec : ∀ v, a1.eval (.const v) = v := fun _ => rfl; have ef : ∀ f, a1.eval (.func f) = .func (.func f) #[] #[] := fun _ => rfl; have e0 : a1.eval (.tmp 223) = .int .i64 (i8 : Int) := st.done 7 223 (hdep ⟨7, .data⟩ (by simp) rfl) rfl; have eg : a1.eval (.tmp 222) = .bool false := st.done 6 222 (hdep ⟨6, .guard⟩ (by simp) rfl) rfl; exact AnyOrder.step_value rfl ((AnyOrder.wanted_of rfl rfl eg).trans rfl) (.bool true) (by generalize a1.eval = ρ at ec ef e0 ⊢; simp [execOp, ec, ef, e0, IntWalk.i64_left, hz, hz2, go_sem]) st.inv (Below.refl _ _) rfl)
                    | 9, ho => (injection ho with ho; subst ho; have ec : ∀ v, a1.eval (.const v) = v := fun _ => rfl; have ef : ∀ f, a1.eval (.func f) = .func (.func f) #[] #[] := fun _ => rfl; have e0 : a1.eval (.tmp 224) = .bool true := st.done 8 224 (hdep ⟨8, .data⟩ (by simp) rfl) rfl; have eg : a1.eval (.tmp 222) = .bool false := st.done 6 222 (hdep ⟨6, .chain⟩ (by simp) rfl) rfl; exact AnyOrder.step_value rfl ((AnyOrder.wanted_of rfl rfl eg).trans rfl) (.bool true) (AnyOrder.run_move e0) st.inv (Below.refl _ _) rfl)
                    | 10, ho => (injection ho with ho; subst ho; have ec : ∀ v, a1.eval (.const v) = v := fun _ => rfl; have ef : ∀ f, a1.eval (.func f) = .func (.func f) #[] #[] := fun _ => rfl; have e0 : a1.eval (.tmp 19) = .slice (some ⟨b1, o1, none⟩) n3 cL := st.old hl 19 (by kernel_rfl); have eg : a1.eval (.tmp 225) = .bool true := st.done 9 225 (hdep ⟨9, .guard⟩ (by simp) rfl) rfl; exact AnyOrder.step_value rfl ((AnyOrder.wanted_of rfl rfl eg).trans rfl) (.slice (some ⟨b1, o1, none⟩) n3 cL) (AnyOrder.run_move e0) st.inv (Below.refl _ _) rfl)
                    | 11, ho => (injection ho with ho; subst ho; have ec : ∀ v, a1.eval (.const v) = v := fun _ => rfl; have ef : ∀ f, a1.eval (.func f) = .func (.func f) #[] #[] := fun _ => rfl; have e0 : a1.eval (.tmp 20) = .int .i64 (i8 : Int) := st.old hl 20 (by kernel_rfl); have eg : a1.eval (.tmp 225) = .bool true := st.done 9 225 (hdep ⟨9, .guard⟩ (by simp) rfl) rfl; exact AnyOrder.step_value rfl ((AnyOrder.wanted_of rfl rfl eg).trans rfl) (.int .i64 (i8 : Int)) (AnyOrder.run_move e0) st.inv (Below.refl _ _) rfl)
                    | 12, ho => (injection ho with ho; subst ho; have ec : ∀ v, a1.eval (.const v) = v := fun _ => rfl; have ef : ∀ f, a1.eval (.func f) = .func (.func f) #[] #[] := fun _ => rfl; have e0 : a1.eval (.tmp 227) = .int .i64 (i8 : Int) := st.done 11 227 (hdep ⟨11, .data⟩ (by simp) rfl) rfl; have eg : a1.eval (.tmp 225) = .bool true := st.done 9 225 (hdep ⟨9, .guard⟩ (by simp) rfl) rfl; exact AnyOrder.step_value rfl ((AnyOrder.wanted_of rfl rfl eg).trans rfl) (.int .i64 (k8 : Int)) (by generalize a1.eval = ρ at ec ef e0 ⊢; simp [execOp, ec, ef, e0, IntWalk.i64_left, hsub, go_sem]) st.inv (Below.refl _ _) rfl)
                    | 13, ho => (injection ho with ho; subst ho; have ec : ∀ v, a1.eval (.const v) = v := fun _ => rfl; have ef : ∀ f, a1.eval (.func f) = .func (.func f) #[] #[] := fun _ => rfl; have e0 : a1.eval (.tmp 226) = .slice (some ⟨b1, o1, none⟩) n3 cL := st.done 10 226 (hdep ⟨10, .data⟩ (by simp) rfl) rfl; have e1 : a1.eval (.tmp 228) = .int .i64 (k8 : Int) := st.done 12 228 (hdep ⟨12, .data⟩ (by simp) rfl) rfl; have eg : a1.eval (.tmp 225) = .bool true := st.done 9 225 (hdep ⟨9, .guard⟩ (by simp) rfl) rfl; exact AnyOrder.step_value rfl ((AnyOrder.wanted_of rfl rfl eg).trans rfl) (ptr b1 (o1 + k8 * 8)) (by generalize a1.eval = ρ at ec ef e0 e1 ⊢; simp [execOp, e0, e1, go_sem, b5, b7]) st.inv (Below.refl _ _) rfl)
                    | 14, ho => (injection ho with ho; subst ho; have ec : ∀ v, a1.eval (.const v) = v := fun _ => rfl; have ef : ∀ f, a1.eval (.func f) = .func (.func f) #[] #[] := fun _ => rfl; have e0 : a1.eval (.tmp 229) = ptr b1 (o1 + k8 * 8) := st.done 13 229 (hdep ⟨13, .data⟩ (by simp) rfl) rfl; have eg : a1.eval (.tmp 225) = .bool true := st.done 9 225 (hdep ⟨9, .guard⟩ (by simp) rfl) rfl; exact AnyOrder.step_value rfl ((AnyOrder.wanted_of rfl rfl eg).trans rfl) (ptr b1 (o1 + k8 * 8)) (by generalize a1.eval = ρ at ec ef e0 ⊢; simp [execOp, ec, ef, e0, IntWalk.i64_left, go_sem]) st.inv (Below.refl _ _) rfl)
                    | 15, ho => (injection ho with ho; subst ho; have ec : ∀ v, a1.eval (.const v) = v := fun _ => rfl; have ef : ∀ f, a1.eval (.func f) = .func (.func f) #[] #[] := fun _ => rfl; have e0 : a1.eval (.tmp 230) = ptr b1 (o1 + k8 * 8) := st.done 14 230 (hdep ⟨14, .data⟩ (by simp) rfl) rfl; have eg : a1.eval (.tmp 225) = .bool true := st.done 9 225 (hdep ⟨9, .guard⟩ (by simp) rfl) rfl; exact AnyOrder.step_value rfl ((AnyOrder.wanted_of rfl rfl eg).trans rfl) (.int .i64 y.id) (by have hk := (st.inv.cell (p := ⟨b1, _, none⟩) L1.out).trans HK1.out; generalize a1.eval = ρ at ec ef e0 ⊢; simp [execOp, e0, go_sem, hk]) st.inv (Below.refl _ _) rfl)
                    | 16, ho => (injection ho with ho; subst ho; have ec : ∀ v, a1.eval (.const v) = v := fun _ => rfl; have ef : ∀ f, a1.eval (.func f) = .func (.func f) #[] #[] := fun _ => rfl; have e0 : a1.eval (.tmp 19) = .slice (some ⟨b1, o1, none⟩) n3 cL := st.old hl 19 (by kernel_rfl); have eg : a1.eval (.tmp 225) = .bool true := st.done 9 225 (hdep ⟨9, .guard⟩ (by simp) rfl) rfl; exact AnyOrder.step_value rfl ((AnyOrder.wanted_of rfl rfl eg).trans rfl) (.slice (some ⟨b1, o1, none⟩) n3 cL) (AnyOrder.run_move e0) st.inv (Below.refl _ _) rfl)
                    | 17, ho => (injection ho with ho; subst ho; have ec : ∀ v, a1.eval (.const v) = v := fun _ => rfl; have ef : ∀ f, a1.eval (.func f) = .func (.func f) #[] #[] := fun _ => rfl; have e0 : a1.eval (.tmp 20) = .int .i64 (i8 : Int) := st.old hl 20 (by kernel_rfl); have eg : a1.eval (.tmp 225) = .bool true := st.done 9 225 (hdep ⟨9, .guard⟩ (by simp) rfl) rfl; exact AnyOrder.step_value rfl ((AnyOrder.wanted_of rfl rfl eg).trans rfl) (.int .i64 (i8 : Int)) (AnyOrder.run_move e0) st.inv (Below.refl _ _) rfl)
                    | 18, ho => (injection ho with ho; subst ho; have ec : ∀ v, a1.eval (.const v) = v := fun _ => rfl; have ef : ∀ f, a1.eval (.func f) = .func (.func f) #[] #[] := fun _ => rfl; have e0 : a1.eval (.tmp 232) = .slice (some ⟨b1, o1, none⟩) n3 cL := st.done 16 232 (hdep ⟨16, .data⟩ (by simp) rfl) rfl; have e1 : a1.eval (.tmp 233) = .int .i64 (i8 : Int) := st.done 17 233 (hdep ⟨17, .data⟩ (by simp) rfl) rfl; have eg : a1.eval (.tmp 225) = .bool true := st.done 9 225 (hdep ⟨9, .guard⟩ (by simp) rfl) rfl; exact AnyOrder.step_value rfl ((AnyOrder.wanted_of rfl rfl eg).trans rfl) (ptr b1 (o1 + i8 * 8)) (by generalize a1.eval = ρ at ec ef e0 e1 ⊢; simp [execOp, e0, e1, go_sem, b3, b4]) st.inv (Below.refl _ _) rfl)
                    | 19, ho => (injection ho with ho; subst ho; have ec : ∀ v, a1.eval (.const v) = v := fun _ => rfl; have ef : ∀ f, a1.eval (.func f) = .func (.func f) #[] #[] := fun _ => rfl; have e0 : a1.eval (.tmp 234) = ptr b1 (o1 + i8 * 8) := st.done 18 234 (hdep ⟨18, .data⟩ (by simp) rfl) rfl; have eg : a1.eval (.tmp 225) = .bool true := st.done 9 225 (hdep ⟨9, .guard⟩ (by simp) rfl) rfl; exact AnyOrder.step_value rfl ((AnyOrder.wanted_of rfl rfl eg).trans rfl) (ptr b1 (o1 + i8 * 8)) (by generalize a1.eval = ρ at ec ef e0 ⊢; simp [execOp, ec, ef, e0, IntWalk.i64_left, go_sem]) st.inv (Below.refl _ _) rfl)
                    | 20, ho => (injection ho with ho; subst ho; have ec : ∀ v, a1.eval (.const v) = v := fun _ => rfl; have ef : ∀ f, a1.eval (.func f) = .func (.func f) #[] #[] := fun _ => rfl; have e0 : a1.eval (.tmp 235) = ptr b1 (o1 + i8 * 8) := st.done 19 235 (hdep ⟨19, .data⟩ (by simp) rfl) rfl; have eg : a1.eval (.tmp 225) = .bool true := st.done 9 225 (hdep ⟨9, .guard⟩ (by simp) rfl) rfl; exact AnyOrder.step_value rfl ((AnyOrder.wanted_of rfl rfl eg).trans rfl) (.int .i64 x.id) (by have hk := (st.inv.cell (p := ⟨b1, _, none⟩) L1.out).trans HK0.out; generalize a1.eval = ρ at ec ef e0 ⊢; simp [execOp, e0, go_sem, hk]) st.inv (Below.refl _ _) rfl)
                    | 21, ho => (injection ho with ho; subst ho; have ec : ∀ v, a1.eval (.const v) = v := fun _ => rfl; have ef : ∀ f, a1.eval (.func f) = .func (.func f) #[] #[] := fun _ => rfl; have e0 : a1.eval (.tmp 231) = .int .i64 y.id := st.done 15 231 (hdep ⟨15, .data⟩ (by simp) rfl) rfl; have e1 : a1.eval (.tmp 236) = .int .i64 x.id := st.done 20 236 (hdep ⟨20, .data⟩ (by simp) rfl) rfl; have eg : a1.eval (.tmp 225) = .bool true := st.done 9 225 (hdep ⟨9, .guard⟩ (by simp) rfl) rfl; exact AnyOrder.step_value rfl ((AnyOrder.wanted_of rfl rfl eg).trans rfl) (.bool false) (by generalize a1.eval = ρ at ec ef e0 e1 ⊢; simp [execOp, ec, ef, e0, e1, IntWalk.i64_left, hyx, nyx, go_sem]) st.inv (Below.refl _ _) rfl)
                    | 22, ho => (injection ho with ho; subst ho; have ec : ∀ v, a1.eval (.const v) = v := fun _ => rfl; have ef : ∀ f, a1.eval (.func f) = .func (.func f) #[] #[] := fun _ => rfl; have e0 : a1.eval (.tmp 225) = .bool true := st.done 9 225 (hdep ⟨9, .data⟩ (by simp) rfl) rfl; have e1 : a1.eval (.tmp 237) = .bool false := st.done 21 237 (hdep ⟨21, .data⟩ (by simp) rfl) rfl; have eg : a1.eval (.tmp 222) = .bool false := st.done 6 222 (hdep ⟨6, .guard⟩ (by simp) rfl) rfl; exact AnyOrder.step_value rfl ((AnyOrder.wanted_of rfl rfl eg).trans rfl) (.bool false) (by generalize a1.eval = ρ at ec ef e0 e1 ⊢; simp [execOp, ec, ef, e0, e1, IntWalk.i64_left, go_sem]) st.inv (Below.refl _ _) rfl)
                    | 23, ho => (injection ho with ho; subst ho; have ec : ∀ v, a1.eval (.const v) = v := fun _ => rfl; have ef : ∀ f, a1.eval (.func f) = .func (.func f) #[] #[] := fun _ => rfl; have e0 : a1.eval (.tmp 222) = .bool false := st.done 6 222 (hdep ⟨6, .data⟩ (by simp) rfl) rfl; have e1 : a1.eval (.tmp 238) = .bool false := st.done 22 238 (hdep ⟨22, .data⟩ (by simp) rfl) rfl; exact AnyOrder.step_value rfl (AnyOrder.wanted_none rfl) (.bool false) (by generalize a1.eval = ρ at ec ef e0 e1 ⊢; simp [execOp, ec, ef, e0, e1, IntWalk.i64_left, go_sem]) st.inv (Below.refl _ _) rfl)
                    | 24, ho => (injection ho with ho; subst ho; have ec : ∀ v, a1.eval (.const v) = v := fun _ => rfl; have ef : ∀ f, a1.eval (.func f) = .func (.func f) #[] #[] := fun _ => rfl; have e0 : a1.eval (.tmp 239) = .bool false := st.done 23 239 (hdep ⟨23, .data⟩ (by simp) rfl) rfl; exact AnyOrder.step_value rfl (AnyOrder.wanted_none rfl) (.bool false) (AnyOrder.run_move e0) st.inv (Below.refl _ _) rfl)
                    | 25, ho => (injection ho with ho; subst ho; have ec : ∀ v, a1.eval (.const v) = v := fun _ => rfl; have ef : ∀ f, a1.eval (.func f) = .func (.func f) #[] #[] := fun _ => rfl; have e0 : a1.eval (.tmp 19) = .slice (some ⟨b1, o1, none⟩) n3 cL := st.old hl 19 (by kernel_rfl); have eg : a1.eval (.tmp 240) = .bool false := st.done 24 240 (hdep ⟨24, .guard⟩ (by simp) rfl) rfl; exact AnyOrder.step_value rfl ((AnyOrder.wanted_of rfl rfl eg).trans rfl) (.slice (some ⟨b1, o1, none⟩) n3 cL) (AnyOrder.run_move e0) st.inv (Below.refl _ _) rfl)
                    | 26, ho => (injection ho with ho; subst ho; have ec : ∀ v, a1.eval (.const v) = v := fun _ => rfl; have ef : ∀ f, a1.eval (.func f) = .func (.func f) #[] #[] := fun _ => rfl; have e0 : a1.eval (.tmp 20) = .int .i64 (i8 : Int) := st.old hl 20 (by kernel_rfl); have eg : a1.eval (.tmp 240) = .bool false := st.done 24 240 (hdep ⟨24, .guard⟩ (by simp) rfl) rfl; exact AnyOrder.step_value rfl ((AnyOrder.wanted_of rfl rfl eg).trans rfl) (.int .i64 (i8 : Int)) (AnyOrder.run_move e0) st.inv (Below.refl _ _) rfl)
                    | 27, ho => (injection ho with ho; subst ho; have ec : ∀ v, a1.eval (.const v) = v := fun _ => rfl; have ef : ∀ f, a1.eval (.func f) = .func (.func f) #[] #[] := fun _ => rfl; have e0 : a1.eval (.tmp 241) = .slice (some ⟨b1, o1, none⟩) n3 cL := st.done 25 241 (hdep ⟨25, .data⟩ (by simp) rfl) rfl; have e1 : a1.eval (.tmp 242) = .int .i64 (i8 : Int) := st.done 26 242 (hdep ⟨26, .data⟩ (by simp) rfl) rfl; have eg : a1.eval (.tmp 240) = .bool false := st.done 24 240 (hdep ⟨24, .guard⟩ (by simp) rfl) rfl; exact AnyOrder.step_value rfl ((AnyOrder.wanted_of rfl rfl eg).trans rfl) (ptr b1 (o1 + i8 * 8)) (by generalize a1.eval = ρ at ec ef e0 e1 ⊢; simp [execOp, e0, e1, go_sem, b3, b4]) st.inv (Below.refl _ _) rfl)
                    | 28, ho => (injection ho with ho; subst ho; have ec : ∀ v, a1.eval (.const v) = v := fun _ => rfl; have ef : ∀ f, a1.eval (.func f) = .func (.func f) #[] #[] := fun _ => rfl; have e0 : a1.eval (.tmp 243) = ptr b1 (o1 + i8 * 8) := st.done 27 243 (hdep ⟨27, .data⟩ (by simp) rfl) rfl; have eg : a1.eval (.tmp 240) = .bool false := st.done 24 240 (hdep ⟨24, .guard⟩ (by simp) rfl) rfl; exact AnyOrder.step_value rfl ((AnyOrder.wanted_of rfl rfl eg).trans rfl) (ptr b1 (o1 + i8 * 8)) (by generalize a1.eval = ρ at ec ef e0 ⊢; simp [execOp, ec, ef, e0, IntWalk.i64_left, go_sem]) st.inv (Below.refl _ _) rfl)
                    | 29, ho => (injection ho with ho; subst ho; have ec : ∀ v, a1.eval (.const v) = v := fun _ => rfl; have ef : ∀ f, a1.eval (.func f) = .func (.func f) #[] #[] := fun _ => rfl; have e0 : a1.eval (.tmp 244) = ptr b1 (o1 + i8 * 8) := st.done 28 244 (hdep ⟨28, .data⟩ (by simp) rfl) rfl; have eg : a1.eval (.tmp 240) = .bool false := st.done 24 240 (hdep ⟨24, .guard⟩ (by simp) rfl) rfl; exact AnyOrder.step_value rfl ((AnyOrder.wanted_of rfl rfl eg).trans rfl) (.int .i64 x.id) (by have hk := (st.inv.cell (p := ⟨b1, _, none⟩) L1.out).trans HK0.out; generalize a1.eval = ρ at ec ef e0 ⊢; simp [execOp, e0, go_sem, hk]) st.inv (Below.refl _ _) rfl)
                    | 30, ho => (injection ho with ho; subst ho; have ec : ∀ v, a1.eval (.const v) = v := fun _ => rfl; have ef : ∀ f, a1.eval (.func f) = .func (.func f) #[] #[] := fun _ => rfl; have e0 : a1.eval (.tmp 5) = ptr q 0 := st.old hl 5 (by kernel_rfl); have eg : a1.eval (.tmp 240) = .bool false := st.done 24 240 (hdep ⟨24, .guard⟩ (by simp) rfl) rfl; exact AnyOrder.step_value rfl ((AnyOrder.wanted_of rfl rfl eg).trans rfl) (r.V oo p) (run_load_bk e0 (At.step HBK.out st.inv)) st.inv (Below.refl _ _) rfl)
                    | 31, ho => (injection ho with ho; subst ho; have ec : ∀ v, a1.eval (.const v) = v := fun _ => rfl; have ef : ∀ f, a1.eval (.func f) = .func (.func f) #[] #[] := fun _ => rfl; have e0 : a1.eval (.tmp 246) = r.V oo p := st.done 30 246 (hdep ⟨30, .data⟩ (by simp) rfl) rfl; have eg : a1.eval (.tmp 240) = .bool false := st.done 24 240 (hdep ⟨24, .chain⟩ (by simp) rfl) rfl; exact AnyOrder.step_call rfl ((AnyOrder.wanted_of rfl rfl eg).trans rfl) 7 #[r.V oo p] (by generalize a1.eval = ρ at ec ef e0 ⊢; simp [execOp, ec, ef, e0, go_sem]) ((index_any r oo p w2).mono (fun e w3 h => by obtain ⟨rfl, hb⟩ := h; exact ⟨_, rfl, st.inv.trans (hb.mono st.inv.size), hb, rfl⟩)))
                    | 32, ho => (injection ho with ho; subst ho; have ec : ∀ v, a1.eval (.const v) = v := fun _ => rfl; have ef : ∀ f, a1.eval (.func f) = .func (.func f) #[] #[] := fun _ => rfl; have e0 : a1.eval (.tmp 245) = .int .i64 x.id := st.done 29 245 (hdep ⟨29, .data⟩ (by simp) rfl) rfl; have e1 : a1.eval (.tmp 247) = .int .i64 r.ix := st.done 31 247 (hdep ⟨31, .data⟩ (by simp) rfl) rfl; have eg : a1.eval (.tmp 240) = .bool false := st.done 24 240 (hdep ⟨24, .guard⟩ (by simp) rfl) rfl; exact AnyOrder.step_value rfl ((AnyOrder.wanted_of rfl rfl eg).trans rfl) (.bool false) (by generalize a1.eval = ρ at ec ef e0 e1 ⊢; simp [execOp, ec, ef, e0, e1, IntWalk.i64_left, hgx, ngx, go_sem]) st.inv (Below.refl _ _) rfl)
                    | 33, ho => (injection ho with ho; subst ho; have ec : ∀ v, a1.eval (.const v) = v := fun _ => rfl; have ef : ∀ f, a1.eval (.func f) = .func (.func f) #[] #[] := fun _ => rfl; have e0 : a1.eval (.tmp 240) = .bool false := st.done 24 240 (hdep ⟨24, .data⟩ (by simp) rfl) rfl; have e1 : a1.eval (.tmp 248) = .bool false := st.done 32 248 (hdep ⟨32, .data⟩ (by simp) rfl) rfl; exact AnyOrder.step_value rfl (AnyOrder.wanted_none rfl) (.bool false) (by generalize a1.eval = ρ at ec ef e0 e1 ⊢; simp [execOp, ec, ef, e0, e1, IntWalk.i64_left, go_sem]) st.inv (Below.refl _ _) rfl)
                    | n + 34, ho => exact absurd hin (by omega)
                  · intro wy hJ
                    simp only [AnyOrder.finK, List.take_succ_cons, List.take_zero, List.drop_succ_cons, List.drop_zero, Act.put, List.setIfInBounds_toArray, List.set_cons_zero, List.set_cons_succ]
                    go_wp2_with fail
                    go_roundg (n3 - (i8 + 1))
                    case measure => have := HG.out; have := HJ.out; omega
                    case rel => exact ⟨i8 + 1, by have := HJ.out; omega, by omega, (by first | rfl | (rw [IntWalk.wrap64_in _ (by omega)]; rfl)), HBX.out.trans (hJ.mono HBX.out.size)⟩
              · have b3 : ¬ (i8 : Int) < (n3 : Int) := by omega
                have HB := Lib.hid HL6.out.bk; have HK := Lib.hid HL6.out.rk
                have CS := Lib.hid (same_book HL6.out.ra HL6.out.at_)
                go_wp2_with (first | ((with_reducible apply wpList_load_bk (h := HK.out)); exact rfl; exact rfl; exact rfl) | ((with_reducible apply wpList_load_bk (h := HB.out)); exact rfl; exact rfl; exact rfl) | (go_at_call 15; (with_reducible refine CS.out.mono ?_)))
                rintro e0 V9 ⟨rfl, hb9⟩
                go_wp2_with fail
                go_ret
                exact ⟨rfl, HL6.out.bel.trans (hb9.mono HL6.out.bel.size)⟩
end Go.Proofs.Ytodacdooooeofaa
