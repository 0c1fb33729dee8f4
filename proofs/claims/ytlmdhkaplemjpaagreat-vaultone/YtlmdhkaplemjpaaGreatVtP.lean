/- Of all who read at one index one at most changes it: the walk. -/
import Derived.Test.YtlmdhkaplemjpaaGreatVtO
import Derived.Deep.CutBlock
namespace Go.Proofs.YtlmdhkaplemjpaaGreat
open Go.RowKit Go.Lib
set_option linter.unusedVariables false
set_option linter.unusedSimpArgs false

theorem since_all {hs : List Cg} (h : ∀ (i : Nat) (y : Cg), hs[i]? = some y → y.ix = (i : Int) + 1) : since hs 0 = hs := by
  have h0 : upto hs 0 = 0 := upto_eq (Nat.zero_le _) (fun a ha => absurd ha (by omega)) (fun a _ c hc => by rw [h a c hc]; omega)
  unfold since
  rw [h0]; rfl
set_option maxRecDepth 100000 in
set_option maxHeartbeats 16000000 in
theorem one_no (c : Cfg) (A : Option Addr) (cap : Nat) (ds : List Dd) (w : World) (hc : okc c = false) (hA : DdsAt w w.heap.size A ds) (hl : ds.length ≤ maxLen) : Calls Tryz.prog 4 #[c.V, .slice A ds.length cap] w (Yes w true) := by
  have H := Lib.hid (new1 w c.cells 24)
  have HA := Lib.hid hA; clear hA
  have HL : Hid (ds.length ≤ 9223372036854775807) := Lib.hid (by unfold maxLen at hl; omega)
  clear hl
  obtain ⟨N, hN⟩ : ∃ N, ds.length = N := ⟨_, rfl⟩
  rw [hN] at HL ⊢
  have HN := Lib.hid hN; clear hN
  have CA := Lib.hid awake_any
  have CN := Lib.hid (fun W => vnew_no c W hc)
  clear hc
  go_enter Tryz.func4, Tryz.ntmps4
  go_upto_region 1 with fail
  obtain ⟨W, hW⟩ : ∃ W, w.alloc (.cells c.cells 24) = W := ⟨_, rfl⟩
  rw [hW] at H ⊢; clear hW
  go_upto_region 3 with (go_at_call 6; (with_reducible refine (CA.out _).mono ?_); rintro e W1 ⟨rfl, hb1⟩)
  have HC : Hid (CAt W1 w.heap.size c) := Lib.hid (At.step H.out.2 hb1)
  have HB := Lib.hid (H.out.1.trans (hb1.mono H.out.1.size)); clear H CA hb1
  go_wp2_with (first | ((with_reducible apply wpList_load_cat (h := HC.out)); exact rfl; exact rfl; exact rfl) | (go_at_call 7; (with_reducible refine (CN.out _).mono ?_)))
  rintro e v0 ⟨rfl, hb0⟩
  go_wp2_with fail
  go_ret
  exact ⟨rfl, HB.out.trans (hb0.mono HB.out.size)⟩
set_option maxRecDepth 100000 in
set_option maxHeartbeats 16000000 in
theorem one_ok (c : Cfg) (A : Option Addr) (cap : Nat) (ds : List Dd) (w : World) (hc : okc c = true) (hA : DdsAt w w.heap.size A ds) (hl : ds.length ≤ maxLen) : Calls Tryz.prog 4 #[c.V, .slice A ds.length cap] w (Yes w true) := by
  have H := Lib.hid (new1 w c.cells 24)
  have HA := Lib.hid hA; clear hA
  have HL : Hid (ds.length ≤ 9223372036854775807) := Lib.hid (by unfold maxLen at hl; omega)
  clear hl
  obtain ⟨N, hN⟩ : ∃ N, ds.length = N := ⟨_, rfl⟩
  rw [hN] at HL ⊢
  have HN := Lib.hid hN; clear hN
  have CA := Lib.hid awake_any
  have CN := Lib.hid (fun (W : World) (hb : Below w.heap.size w W) => VS.new hc hb)
  have CB := Lib.hid (fun W => newBk_none hc W)
  have HBN := Lib.hid (fun W => newBk_at W c (c.get 1).toNat hc)
  have HNB : Hid (newB c = newBk c (c.get 1).toNat) := Lib.hid (if_pos hc)
  clear hc
  go_enter Tryz.func4, Tryz.ntmps4
  go_upto_region 1 with fail
  obtain ⟨W, hW⟩ : ∃ W, w.alloc (.cells c.cells 24) = W := ⟨_, rfl⟩
  rw [hW] at H ⊢; clear hW
  go_upto_region 3 with (go_at_call 6; (with_reducible refine (CA.out _).mono ?_); rintro e W1 ⟨rfl, hb1⟩)
  have HC : Hid (CAt W1 w.heap.size c) := Lib.hid (At.step H.out.2 hb1)
  have HB := Lib.hid (H.out.1.trans (hb1.mono H.out.1.size)); clear H CA hb1
  go_upto_region 6 with (first | ((with_reducible apply wpList_load_cat (h := HC.out)); exact rfl; exact rfl; exact rfl) | (go_at_call 7; (with_reducible refine (CN.out _ HB.out).mono ?_); rintro e v0 ⟨g, rfl, hv0, hb0⟩))
  have HC0 := Lib.hid (At.step HC.out hb0)
  have HV0 := Lib.hid hv0
  clear CN HC HB hv0 hb0
  obtain ⟨x0, hx0⟩ : ∃ x0, newV c = x0 := ⟨_, rfl⟩
  have HXE : Hid (x0.s.b = newB c ∧ x0.n = 0 ∧ x0.m = 0) := Lib.hid (by subst hx0; exact ⟨rfl, rfl, rfl⟩)
  rw [hx0] at HV0
  clear hx0
  go_upto_region 7 with fail
  have bd := below_new v0 (.cells #[] 44)
  have HR0 : Hid (Sh.OwO eS (v0.alloc (.cells #[] 44)) w.heap.size (.slice (some ⟨v0.heap.size, 0, none⟩) 0 0) []) := Lib.hid (Sh.OwO.lit0 eS v0 HV0.out.bel.size)
  have HV1 := Lib.hid (HV0.out.step bd); have HC1 := Lib.hid (At.step HC0.out bd)
  obtain ⟨W1', hW⟩ : ∃ W1', v0.alloc (.cells #[] 44) = W1' := ⟨_, rfl⟩
  rw [hW] at HR0 HV1 HC1 ⊢
  clear hW bd HV0 HC0
  generalize Value.slice (some ⟨v0.heap.size, 0, none⟩) 0 0 = rv0 at HR0 ⊢
  generalize w.heap.size = B0 at HC1
  go_wp2_with fail
  go_loopg [7, 6] 8 (fun gh s7 s6 wx => ∃ (i : Nat) (rv : Value) (ss : List Sp), i ≤ 8 ∧ gh = 8 - i ∧ s7 = .int .i64 (i : Int) ∧ rv = s6 ∧ ss.length = i ∧ VS c w wx g x0 [] [] ∧ Sh.OwO eS wx w.heap.size rv ss ∧ (∀ s ∈ ss, s = x0.s) ∧ CAt wx B0 c)
  case atStart => exact ⟨0, rv0, [], Nat.zero_le _, rfl, rfl, rfl, rfl, HV1.out, HR0.out, fun s m => by simp at m, HC1.out⟩
  case round =>
    clear HR0 HV1 HC1
    obtain ⟨i, rv, ss, hi, hg, rfl, rfl, hss, hv, hr, hal, hcc⟩ := hrel
    have HG := Lib.hid hg; have HV := Lib.hid hv; have HR := Lib.hid hr; have HC := Lib.hid hcc; have HSS := Lib.hid hss; have HAL := Lib.hid hal
    clear hg hv hr hcc hss hal
    by_cases hlt : i < 8
    · have b3 : (i : Int) < 8 := by omega
      have HLT := Lib.hid hlt
      clear hlt hi
      have CR := Lib.hid HV.out.read
      go_upto_region 10 with fail
      go_upto_region 9 with (first | (go_at_call 14; (with_reducible refine (CR.out).mono ?_); rintro e V1 ⟨rfl, hb1⟩; have bx := hb1.trans ((below_new V1 (.cells x0.s.cells 44)).mono hb1.size); obtain ⟨rv1, W2, hr1, ho1, hc1, _⟩ := Sh.OwO.push (x := x0.s) (HR.out.below bx) (Nat.le_trans HV.out.bel.size bx.size) (b := V1.heap.size) (off := 0) (cap := 1) (fun j u hu => by rw [At.cell (At.new V1 44 x0.s.cells), Nat.zero_add]; simpa [eS, Sp.cells] using hu) (by have := HSS.out; have := HLT.out; omega) 77; have HR1 := Lib.hid hr1) | ((with_reducible apply wpList_slice_sp (c := x0.s)); exact rfl; exact rfl; exact rfl) | (at_builtin; (refine Lib.wpList_append_run _ rfl (.tmp 34) (.tmp 37) 77 77 rfl _ _ rfl rfl rv1 W2 HR1.out ?_)))
      have hvx := HV.out.step bx
      have hrx := HR.out.below bx
      have hoff : Sh.Off (V1.alloc (.cells x0.s.cells 44)) (fun k => rv.ownBlock = some k) := snap_off hrx
      have HV2 := Lib.hid (hvx.other hc1 (fun k e => (hrx.lt e).1) (fun e => hrx.ty hvx.vt (show eS.e ≠ _ from by decide) e) (fun k hk e => by
        rcases hvx.ow with ⟨e1, _⟩ | ⟨g1, o1, c1, cur, e1, _, ha, _⟩
        · rw [e1] at hk; cases hk
        · rw [e1] at hk
          have : g1 = k := by simpa [Value.ownBlock] using hk
          subst this
          exact hrx.ty ha (show eS.e ≠ eG.e from by decide) e) hoff)
      have HC2 : Hid (CAt W2 B0 c) := Lib.hid (At.chg (At.step HC.out bx) hc1 (fun e => hrx.ty (At.step HC.out bx) (show eS.e ≠ _ from by decide) e))
      have HR2 := Lib.hid ho1
      clear hvx hrx hoff hc1 ho1 bx hb1 hr1 HR1 HV HR HC CR
      go_wp2_with fail
      go_roundg (8 - (i + 1))
      case measure => have := HG.out; have := HLT.out; omega
      case rel => exact ⟨i + 1, rv1, ss ++ [x0.s], by have := HLT.out; omega, rfl, rfl, rfl, by rw [List.length_append, HSS.out]; rfl, HV2.out, HR2.out, fun s m => by rcases List.mem_append.1 m with m | m; exact HAL.out s m; simpa using m, HC2.out⟩
    · obtain rfl : i = 8 := by omega
      clear hlt hi HG
      have b3 : ¬ ((8 : Nat) : Int) < 8 := by decide
      go_upto_region 12 with (first | ((with_reducible apply wpList_load_cat (h := HC.out)); exact rfl; exact rfl; exact rfl) | (go_at_call 25; (with_reducible refine (CB.out _).mono ?_); rintro e V1 ⟨rfl, hb1⟩) | ((with_reducible apply wpList_store_bknew (b := newB c) (s := none) (t := none)); exact rfl; exact rfl; exact rfl; exact rfl))
      have bx := hb1.trans ((below_new V1 (.cells ((newB c).cells none none) 37)).mono hb1.size)
      have HOS : Hid (OS c w (V1.alloc (.cells ((newB c).cells none none) 37)) g x0 [] rv ss V1.heap.size none none) := Lib.hid ⟨HV.out.step bx, HR.out.below bx, fun s m => by rw [HAL.out s m]; exact (Old.now HV.out).step bx, by rw [HXE.out.1]; exact At.new _ _ _, by rw [HXE.out.1, HNB.out]; exact HBN.out _, Nat.le_trans HV.out.bel.size hb1.size⟩
      obtain ⟨W3, hW⟩ : ∃ W3, V1.alloc (.cells ((newB c).cells none none) 37) = W3 := ⟨_, rfl⟩
      rw [hW] at HOS ⊢
      clear hW bx hb1 HV HR HC HAL CB HBN HNB
      generalize V1.heap.size = q at *
      have HX0 : Hid (x0.n = 0 ∧ x0.m = 0) := Lib.hid HXE.out.2
      have hsh : ∃ gr off cp, rv = .slice (some ⟨gr, off, none⟩) 8 cp := by
        obtain ⟨s00, hs00⟩ : ∃ s, ss[0]? = some s := ⟨_, List.getElem?_eq_getElem (by have := HSS.out; omega)⟩
        obtain ⟨gr, off, cp, hrv, _, _⟩ := HOS.out.row.at_ hs00
        rw [HSS.out] at hrv
        exact ⟨gr, off, cp, hrv⟩
      obtain ⟨gr, off, cp, hrv⟩ := hsh
      subst hrv
      clear HXE
      go_wp2_with fail
      go_loopg [9] N (fun gh s9 wx => ∃ (j : Nat) (x : Vt) (hs : List Cg) (ss : List Sp) (o p : Option Addr), j ≤ N ∧ j ≤ 80 ∧ gh = N - j ∧ s9 = .int .i64 (j : Int) ∧ OS c w wx g x hs (.slice (some ⟨gr, off, none⟩) 8 cp) ss q o p ∧ ss.length = 8 ∧ hs.length ≤ j ∧ (0 ≤ x.n ∧ x.n ≤ j) ∧ (0 ≤ x.m ∧ x.m ≤ j))
      case atStart => exact ⟨0, x0, [], ss, none, none, Nat.zero_le _, by omega, rfl, rfl, HOS.out, HSS.out, Nat.le_refl _, by have := HX0.out.1; omega, by have := HX0.out.2; omega⟩
      case round =>
        clear HOS HX0 HSS
        obtain ⟨j, x, hs, ss, o, p, hj, hj80, hg, rfl, hos, hss, hhj, hn, hm⟩ := hrel
        have HG := Lib.hid hg; have HOS := Lib.hid hos; have HSS := Lib.hid hss; have HHJ := Lib.hid hhj; have HN2 := Lib.hid hn; have HM2 := Lib.hid hm
        clear hg hos hss hhj hn hm
        have b4 : (0 : Int) ≤ (j : Int) := by omega
        by_cases hlt : j < N ∧ j < 80
        · obtain ⟨b1, o1, rfl, l1, k1⟩ := HA.out j (by rw [HN.out]; exact hlt.1)
          have b3 : (j : Int) < (N : Int) := by omega
          have b6 : (j : Int) < 80 := by omega
          have HJ := Lib.hid hlt; clear hlt
          have KR := Lib.hid (rng_below k1 l1 HOS.out.vs.bel)
          clear k1 l1
          generalize ds.getD j zd = y at *
          go_upto_region 16 with (first | ((with_reducible apply wpList_load_dd (y := y) (h := KR.out)); exact rfl; exact rfl; exact rfl) | ((with_reducible apply wpList_store_ddnew (c := y)); exact rfl; exact rfl; exact rfl; exact rfl))
          have bd := below_new wr (.cells y.cells 58)
          have HDD0 := At.new wr 58 y.cells
          obtain ⟨V1, hW⟩ : ∃ V1, wr.alloc (.cells y.cells 58) = V1 := ⟨_, rfl⟩
          rw [hW] at bd HDD0 ⊢; clear hW KR
          have HR1 := Lib.hid (HOS.out.step bd); have HD1 : Hid (DdAt V1 wr.heap.size y) := Lib.hid HDD0
          clear HOS bd HDD0
          generalize wr.heap.size = g10 at *
          obtain ⟨k, hk, hk8⟩ := who_num y.who
          have kk1 := HD1.out.k1
          go_upto_region 17 with fail
          rw [hk]
          clear kk1
          have hks : k < ss.length := by rw [HSS.out]; exact hk8
          have HKS := Lib.hid hks
          obtain ⟨s, hsk⟩ : ∃ s, ss[k]? = some s := ⟨_, List.getElem?_eq_getElem hks⟩
          have hsm : s ∈ ss := List.mem_of_getElem? hsk
          have HSM := Lib.hid hsm; have HSK := Lib.hid hsk
          have b7 : (0 : Int) ≤ (k : Int) := by omega
          have b8 : (k : Int) < 8 := by omega
          have HK8 := Lib.hid hk8
          clear hk hsm hsk hks hk8
          have kk0 := HD1.out.k0
          by_cases hk1 : y.kind = 1
          · have d1 : (y.kind == 1) = true := by simpa using hk1
            clear hk1
            have CR := Lib.hid HR1.out.vs.read
            generalize y.kind = yk at kk0 d1
            go_upto_region 14 with (first | (go_at_call 14; (with_reducible refine (CR.out).mono ?_); rintro e V2 ⟨rfl, hb2⟩; have HR2 := Lib.hid (HR1.out.step hb2); have HST := Lib.hid (HR2.out.reads (cap := cp) (by rw [HSS.out]) HKS.out); have HTH := Lib.hid HST.out.2) | ((with_reducible apply wpList_store_spm (s := x.s) (ht := HTH.out)); exact rfl; exact rfl; exact rfl; exact rfl))
            obtain ⟨V3, hW⟩ : ∃ V3, V2.setCells gr (off + k * 51) x.s.list = V3 := ⟨_, rfl⟩
            rw [hW] at HST ⊢; clear hW hb2
            have HR3 := Lib.hid HST.out.1
            clear HST HTH HR1 HR2 CR HD1 HSK HSM kk0
            go_wp2_with fail
            go_roundg (N - (j + 1))
            case measure => have := HG.out; have := HJ.out; omega
            case rel => exact ⟨j + 1, x, hs, ss.set k x.s, o, p, by have := HJ.out; omega, by have := HJ.out; omega, rfl, rfl, HR3.out, by rw [List.length_set]; exact HSS.out, by have := HHJ.out; omega, by have := HN2.out; omega, by have := HM2.out; omega⟩
          · have d1 : (y.kind == 1) = false := by simpa using hk1
            clear hk1
            have HKR := Lib.hid (by obtain ⟨g1, o1, c1, e1, _, h2⟩ := HR1.out.row.at_ HSK.out; injection e1 with e1 _ e2; injection e1 with e1; injection e1 with e1 e3; subst e1; subst e3; exact h2 : V1.rangeAt gr (off + k * 51) s.list)
            have HOLD := Lib.hid (HR1.out.old s HSM.out)
            go_upto_region 20 with (first | ((with_reducible apply wpList_load_spm (c := s) (h := HKR.out)); exact rfl; exact rfl; exact rfl) | ((with_reducible apply wpList_store_spnew (c := s)); exact rfl; exact rfl; exact rfl; exact rfl))
            have bd := below_new V1 (.cells s.cells 44)
            have HS2 : Hid (SpAt (V1.alloc (.cells s.cells 44)) V1.heap.size s) := Lib.hid (At.new _ _ _)
            have HR2 := Lib.hid (HR1.out.step bd); have HD2 := Lib.hid (At.step HD1.out bd); have HOLD2 := Lib.hid (HOLD.out.step bd)
            obtain ⟨V2, hW⟩ : ∃ V2, V1.alloc (.cells s.cells 44) = V2 := ⟨_, rfl⟩
            rw [hW] at HS2 HR2 HD2 HOLD2 ⊢; clear hW bd HR1 HD1 HOLD HKR HSK kk0
            generalize V1.heap.size = q12 at *
            have HSR := Lib.hid (Sp.bk (SpAt.rng HS2.out))
            have HXR := Lib.hid (DdAt.x HD2.out)
            have hw1 : IntKind.i64.wrap (1 + (k : Int)) = 1 + (k : Int) := IntWalk.i64_in _ (by omega)
            obtain ⟨n1, hn1⟩ : ∃ n1 : Int, 1 + (k : Int) = n1 := ⟨_, rfl⟩
            rw [hn1] at hw1
            obtain ⟨rr, hrr⟩ : ∃ rr, placeB s.b y.x n1 0 = rr := ⟨_, rfl⟩
            have CC := Lib.hid (by have h := placeBk_any (x := y.x) (n := n1) (m := 0) HOLD2.out.1 HOLD2.out.ok; rw [hrr] at h; exact h : Calls Tryz.prog 16 #[s.b.V s.o s.p, y.x.V, .int .i64 n1, .int .i64 0] V2 (B3 V2 rr))
            obtain ⟨d, ch, e0⟩ := rr
            have HRES : Hid (e0 = 0 → applyB s.b ch = (d, 0)) := Lib.hid (fun h => by subst h; exact place_apply hrr)
            clear hrr
            go_upto_region 21 with (first | ((with_reducible apply wpList_load_bkm (b := s.b) (s := s.o) (t := s.p) (h := HSR.out)); exact rfl; exact rfl; exact rfl) | ((with_reducible apply wpList_load_kpart (c := y.x) (h := HXR.out)); exact rfl; exact rfl; exact rfl) | (go_at_call 16; (with_reducible refine (CC.out).mono ?_); rintro e V3 ⟨o1, p1, rfl, ha1, hb3⟩; have HQ : Hid (BkAt ((V3.alloc (.cells Z29 37)).alloc (.cells Z11 48)) V3.heap.size zb none none) := Lib.hid (new2 V3 Z29 Z11 37 48).2.1; have HR : Hid (CgAt (((V3.alloc (.cells Z29 37)).alloc (.cells Z11 48)).setRow V3.heap.size (d.cells o1 p1)) (V3.heap.size + 1) zg) := Lib.hid (At.farRow (new2 V3 Z29 Z11 37 48).2.2 (by omega))) | ((with_reducible apply wpList_store_bk (b := d) (s := o1) (t := p1) (hq := HQ.out)); exact rfl; exact rfl; exact rfl; exact rfl) | ((with_reducible apply wpList_store_cg (c := ch) (hq := HR.out)); exact rfl; exact rfl; exact rfl; exact rfl))
            obtain ⟨bm3, hbk3, hcg3⟩ := made2 V3 d o1 p1 ch
            have HI := Lib.hid (IS.new HR2.out HD2.out HS2.out hb3 bm3 hbk3 hcg3 (BAt.step ha1 bm3))
            obtain ⟨V4, hW⟩ : ∃ V4, ((((V3.alloc (.cells Z29 37)).alloc (.cells Z11 48)).setRow V3.heap.size (d.cells o1 p1)).setRow (V3.heap.size + 1) ch.cells) = V4 := ⟨_, rfl⟩
            rw [hW] at HI ⊢
            clear hW HQ HR CC HSR HXR ha1 hb3 bm3 hbk3 hcg3 HR2 HD2 HS2 HOLD2
            generalize V3.heap.size + 1 = q14 at *
            generalize V3.heap.size = q13 at *
            have kk0 := HI.out.dd.k0
            go_upto_if 85 with fail
            clear kk0
            go_cut [15] from 85 to 96 (fun s15 wx => ∃ (d : Bk) (o' p' : Option Addr) (ch : Cg) (e : Int), s15 = .int .i64 e ∧ IS c w wx g x hs (.slice (some ⟨gr, off, none⟩) 8 cp) ss q o p g10 q12 q13 q14 y s d o' p' ch ∧ (e = 0 → applyB s.b ch = (d, 0)))
            case first =>
              by_cases hk5 : y.kind = 5
              · have d5 : (y.kind == 5) = true := by simpa using hk5
                clear hk5
                have kk10 := HI.out.dd.k10
                have HSR := Lib.hid (Sp.bk (SpAt.rng HI.out.sp))
                have HOLD3 := Lib.hid (HI.out.os.old s HSM.out)
                obtain ⟨rr, hrr⟩ : ∃ rr, cancelB s.b y.n n1 = rr := ⟨_, rfl⟩
                have CC := Lib.hid (by have h := cancelBk_any y.n n1 HOLD3.out.1 HOLD3.out.ok; rw [hrr] at h; exact h : Calls Tryz.prog 17 #[s.b.V s.o s.p, .int .i64 y.n, .int .i64 n1] V4 (B3 V4 rr))
                obtain ⟨d5', ch5, e5⟩ := rr
                have HRES5 : Hid (e5 = 0 → applyB s.b ch5 = (d5', 0)) := Lib.hid (fun h => by subst h; obtain ⟨_, j5, _, hm5⟩ := HOLD3.out; exact hm5.cancel hrr)
                clear hrr HRES
                go_wp2_with (first | ((with_reducible apply wpList_load_bkm (b := s.b) (s := s.o) (t := s.p) (h := HSR.out)); exact rfl; exact rfl; exact rfl) | (go_at_call 17; (with_reducible refine (CC.out).mono ?_); rintro e V5 ⟨o5, p5, rfl, ha5, hb5⟩; have HI5 := Lib.hid (HI.out.step hb5); have HQ := Lib.hid HI5.out.bk; have HR : Hid (CgAt (V5.setRow q13 (d5'.cells o5 p5)) q14 ch) := Lib.hid (At.farRow HI5.out.cg (At.ne HI5.out.cg HI5.out.bk (by decide)))) | ((with_reducible apply wpList_store_bk (b := d5') (s := o5) (t := p5) (hq := HQ.out)); exact rfl; exact rfl; exact rfl; exact rfl) | ((with_reducible apply wpList_store_cg (c := ch5) (hq := HR.out)); exact rfl; exact rfl; exact rfl; exact rfl))
                have HI6 := Lib.hid (HI5.out.put ha5 ch5)
                clear HI5 HQ HR ha5 hb5 HI CC HSR
                go_meet
                exact ⟨d5', o5, p5, ch5, e5, rfl, HI6.out, HRES5.out⟩
              · have d5 : (y.kind == 5) = false := by simpa using hk5
                clear hk5
                go_wp2_with fail
                go_meet
                exact ⟨d, o1, p1, ch, e0, rfl, HI.out, HRES.out⟩
            case rest =>
              clear HI HRES
              obtain ⟨d, o', p', ch, e, rfl, hi, hres⟩ := hcut
              have HI := Lib.hid hi; have HRES := Lib.hid hres; clear hi hres
              by_cases he : e = 0
              · have HAP := Lib.hid (HRES.out he)
                subst he
                clear HRES
                have HOLD := Lib.hid (HI.out.os.old s HSM.out)
                have HOK := Lib.hid HI.out.os.vs.made.ok
                obtain ⟨a0, ha0⟩ : ∃ a0, x.s.b.ix = a0 := ⟨_, rfl⟩
                have HA0 := Lib.hid ha0
                have CI := Lib.hid (fun W => by have h := index_any x.s.b x.s.o x.s.p W; rw [ha0] at h; exact h : ∀ W, Calls Tryz.prog 22 #[x.s.b.V x.s.o x.s.p] W (Num W a0))
                clear ha0
                go_upto_region 25 with (first | (go_at_call 14; (with_reducible refine (HI.out.os.vs.read).mono ?_); rintro e V5 ⟨rfl, hb5⟩) | ((with_reducible apply wpList_field_bk (s := x.s)); exact rfl; exact rfl; exact rfl) | (go_at_call 22; (with_reducible refine (CI.out _).mono ?_); rintro e V6 ⟨rfl, hb6⟩))
                have HI6 := Lib.hid (HI.out.step (hb5.trans (hb6.mono hb5.size)))
                clear HI hb5 hb6
                have HSL := Lib.hid (SpAt.rng HI6.out.sp)
                have HKY : Hid (V6.rangeAt q12 29 s.k.cs.toList) := Lib.hid (by have h := Sp.ky (SpAt.rng HI6.out.sp); rwa [Nat.zero_add] at h)
                have HBK := Lib.hid HI6.out.bk; have HCG := Lib.hid HI6.out.cg
                have hnn : 0 ≤ x.n ∧ x.n < 1000 := by have := HN2.out; have := HJ.out; omega
                have hmm : 0 ≤ x.m ∧ x.m < 1000 := by have := HM2.out; have := HJ.out; omega
                have hll : hs.length < 200 := by have := HHJ.out; have := HJ.out; omega
                by_cases hi : s.b.ix = x.s.b.ix
                · have hsb : s.b = x.s.b := HOLD.out.same HI6.out.os.vs.made hi
                  have hap : applyB x.s.b ch = (d, 0) := by rw [← hsb]; exact HAP.out
                  have HAP2 := Lib.hid hap
                  have CC := Lib.hid (HI6.out.os.vs.commit (s := s) (k := s.k) hi hnn hll HI6.out.bd hap)
                  have hdx : d.ix = a0 + 1 := by rw [← HA0.out]; exact (HI6.out.os.vs.made.step HI6.out.os.vs.rise (by omega) hap).2.1
                  have HSI : Hid (s.b.ix = a0) := Lib.hid (by rw [hi]; exact HA0.out)
                  have hw2 : IntKind.i64.wrap (a0 + 1) = a0 + 1 := by
                    have h1 := HI6.out.os.vs.made.len
                    rw [HA0.out] at h1
                    exact IntWalk.i64_in _ (by omega)
                  have HW2 := Lib.hid hw2; have HDX := Lib.hid hdx
                  clear hsb hap hi hnn hmm hll hdx hw2 HAP
                  go_upto_region 26 with (first | ((with_reducible apply wpList_load_spm (c := s) (h := HSL.out)); exact rfl; exact rfl; exact rfl) | ((with_reducible apply wpList_load_bk (h := HBK.out)); exact rfl; exact rfl; exact rfl) | ((with_reducible apply wpList_load_cg (h := HCG.out)); exact rfl; exact rfl; exact rfl) | ((with_reducible apply wpList_load_ykm (c := s.k) (h := HKY.out)); exact rfl; exact rfl; exact rfl) | (go_at_call 9; (with_reducible refine (CC.out).mono ?_); rintro e V7 ⟨rfl, v', hv7, hc7, hl7⟩))
                  have HC7 := Lib.hid (CS2.new HI6.out hc7 hv7 (.inr ⟨ch, rfl⟩))
                  clear hv7 hc7 hl7 CC HSL HKY HBK HCG HI6 HOLD CI
                  obtain ⟨x2, hx2⟩ : ∃ x2 : Vt, (⟨⟨d, o', p', s.k, x.s.t⟩, v', x.n + 1, x.m⟩ : Vt) = x2 := ⟨_, rfl⟩
                  have HX2 : Hid (x2.s.b = d ∧ x2.n = x.n + 1 ∧ x2.m = x.m) := Lib.hid (by subst hx2; exact ⟨rfl, rfl, rfl⟩)
                  rw [hx2] at HC7
                  clear hx2
                  have CI := Lib.hid (fun W => by have h := index_any x2.s.b x2.s.o x2.s.p W; rw [HX2.out.1, HDX.out] at h; rw [HX2.out.1]; exact h : ∀ W, Calls Tryz.prog 22 #[x2.s.b.V x2.s.o x2.s.p] W (Num W (a0 + 1)))
                  go_upto_region 27 with (first | (go_at_call 14; (with_reducible refine (HC7.out.vs.read).mono ?_); rintro e V8 ⟨rfl, hb8⟩) | ((with_reducible apply wpList_field_bk (s := x2.s)); exact rfl; exact rfl; exact rfl) | (go_at_call 22; (with_reducible refine (CI.out _).mono ?_); rintro e V9 ⟨rfl, hb9⟩))
                  have HC9 := Lib.hid (HC7.out.step (hb8.trans (hb9.mono hb8.size)))
                  clear HC7 hb8 hb9 CI
                  have CI := Lib.hid (fun W => by have h := index_any s.b s.o s.p W; rw [HSI.out] at h; exact h : ∀ W, Calls Tryz.prog 22 #[s.b.V s.o s.p] W (Num W a0))
                  have HSR := Lib.hid (Sp.bk (SpAt.rng HC9.out.sp))
                  have hw2 := HW2.out
                  go_wp2_with ((with_reducible apply wpList_load_bkm (b := s.b) (s := s.o) (t := s.p) (h := HSR.out)); exact rfl; exact rfl; exact rfl)
                  refine (CI.out _).mono ?_
                  rintro e V10 ⟨rfl, hb10⟩
                  go_upto_region 29 with fail
                  have HC10 := Lib.hid (HC9.out.step hb10)
                  clear HC9 hb10 CI HSR hw2
                  have HBQ := Lib.hid HC10.out.bk; have HCG := Lib.hid HC10.out.cg
                  have CY := Lib.hid (by have h := applyBk_any (x := ch) HC10.out.ba (show x.s.b.Ok from HOK.out); rw [HAP2.out] at h; exact h : Calls Tryz.prog 26 #[x.s.b.V o p, ch.V] V10 (B2 V10 (d, 0)))
                  go_upto_region 33 with (first | ((with_reducible apply wpList_load_bk (h := HBQ.out)); exact rfl; exact rfl; exact rfl) | ((with_reducible apply wpList_load_cg (h := HCG.out)); exact rfl; exact rfl; exact rfl) | (go_at_call 26; (with_reducible refine (CY.out).mono ?_); rintro e V11 ⟨o6, p6, rfl, ha6, hb11⟩) | ((with_reducible apply wpList_store_bknew (b := d) (s := o6) (t := p6)); exact rfl; exact rfl; exact rfl; exact rfl))
                  have bx := hb11.trans ((below_new V11 (.cells (d.cells o6 p6) 37)).mono hb11.size)
                  have HC12 := Lib.hid (HC10.out.step bx)
                  have HK12 : Hid (BkAt (V11.alloc (.cells (d.cells o6 p6) 37)) V11.heap.size d o6 p6) := Lib.hid (At.new _ _ _)
                  have HA12 : Hid (BAt (V11.alloc (.cells (d.cells o6 p6) 37)) d o6 p6) := Lib.hid (BAt.step ha6 (below_new _ _))
                  obtain ⟨V12, hW⟩ : ∃ V12, V11.alloc (.cells (d.cells o6 p6) 37) = V12 := ⟨_, rfl⟩
                  rw [hW] at HC12 HK12 HA12 ⊢
                  clear hW bx ha6 hb11 HC10 CY HBQ HCG
                  generalize V11.heap.size = q19 at *
                  have HBQ := Lib.hid HC12.out.bk
                  have HOS2 := Lib.hid (HC12.out.put (o2 := o6) (p2 := p6) (by rw [HX2.out.1]; exact HA12.out))
                  rw [HX2.out.1] at HOS2
                  go_wp2_with (first | ((with_reducible apply wpList_load_bk (h := HK12.out)); exact rfl; exact rfl; exact rfl) | ((with_reducible apply wpList_store_bk (b := d) (s := o6) (t := p6) (hq := HBQ.out)); exact rfl; exact rfl; exact rfl; exact rfl))
                  go_roundg (N - (j + 1))
                  case measure => have := HG.out; have := HJ.out; omega
                  case rel => exact ⟨j + 1, x2, hs ++ [ch], ss, o6, p6, by have := HJ.out; omega, by have := HJ.out; omega, rfl, rfl, HOS2.out, HSS.out, by rw [List.length_append]; have := HHJ.out; show hs.length + 1 ≤ _; omega, by have := HN2.out; have := HX2.out.2.1; omega, by have := HM2.out; have := HX2.out.2.2; omega⟩
                · have hsi : ¬ s.b.ix = a0 := by rw [← HA0.out]; exact hi
                  have CC := Lib.hid (HI6.out.os.vs.stale (s := s) (b := d) (o := o') (p := p') (ch := ch) (k := s.k) hi hnn hmm)
                  clear hi hnn hmm hll HAP HOLD
                  go_upto_region 26 with (first | ((with_reducible apply wpList_load_spm (c := s) (h := HSL.out)); exact rfl; exact rfl; exact rfl) | ((with_reducible apply wpList_load_bk (h := HBK.out)); exact rfl; exact rfl; exact rfl) | ((with_reducible apply wpList_load_cg (h := HCG.out)); exact rfl; exact rfl; exact rfl) | ((with_reducible apply wpList_load_ykm (c := s.k) (h := HKY.out)); exact rfl; exact rfl; exact rfl) | (go_at_call 9; (with_reducible refine (CC.out).mono ?_); rintro e V7 ⟨rfl, hv7, hc7⟩))
                  have HC7 := Lib.hid (CS2.new HI6.out hc7 hv7 (.inl rfl))
                  clear hv7 hc7 CC HSL HKY HBK HCG HI6
                  obtain ⟨x2, hx2⟩ : ∃ x2 : Vt, ({ x with n := x.n + 1, m := x.m + 1 } : Vt) = x2 := ⟨_, rfl⟩
                  have HX2 : Hid (x2.s = x.s ∧ x2.n = x.n + 1 ∧ x2.m = x.m + 1) := Lib.hid (by subst hx2; exact ⟨rfl, rfl, rfl⟩)
                  rw [hx2] at HC7
                  clear hx2
                  have CR := Lib.hid (by have h := HC7.out.vs.read; rw [HX2.out.1] at h; exact h : Calls Tryz.prog 14 #[ptr g 0] V7 fun e w' => e = .returned x.s.V ∧ Below V7.heap.size V7 w')
                  go_upto_region 27 with (first | (go_at_call 14; (with_reducible refine (CR.out).mono ?_); rintro e V8 ⟨rfl, hb8⟩) | ((with_reducible apply wpList_field_bk (s := x.s)); exact rfl; exact rfl; exact rfl) | (go_at_call 22; (with_reducible refine (CI.out _).mono ?_); rintro e V9 ⟨rfl, hb9⟩))
                  have HC9 := Lib.hid (HC7.out.step (hb8.trans (hb9.mono hb8.size)))
                  clear HC7 hb8 hb9 CI CR
                  obtain ⟨a1, ha1⟩ : ∃ a1, s.b.ix = a1 := ⟨_, rfl⟩
                  have CI := Lib.hid (fun W => by have h := index_any s.b s.o s.p W; rw [ha1] at h; exact h : ∀ W, Calls Tryz.prog 22 #[s.b.V s.o s.p] W (Num W a1))
                  rw [ha1] at hsi
                  have hne : (a1 == a0) = false := by simpa using hsi
                  clear hsi ha1
                  have HSR := Lib.hid (Sp.bk (SpAt.rng HC9.out.sp))
                  go_wp2_with ((with_reducible apply wpList_load_bkm (b := s.b) (s := s.o) (t := s.p) (h := HSR.out)); exact rfl; exact rfl; exact rfl)
                  refine (CI.out _).mono ?_
                  rintro e V10 ⟨rfl, hb10⟩
                  go_upto_region 29 with fail
                  have HC10 := Lib.hid (HC9.out.step hb10)
                  clear HC9 hb10 CI HSR hne
                  have HOS2 := Lib.hid (HC10.out.os (by rw [HX2.out.1]))
                  go_wp2_with fail
                  go_roundg (N - (j + 1))
                  case measure => have := HG.out; have := HJ.out; omega
                  case rel => exact ⟨j + 1, x2, hs, ss, o, p, by have := HJ.out; omega, by have := HJ.out; omega, rfl, rfl, HOS2.out, HSS.out, by have := HHJ.out; omega, by have := HN2.out; have := HX2.out.2.1; omega, by have := HM2.out; have := HX2.out.2.2; omega⟩
              · have hne : (e != 0) = true := by simpa using he
                clear he
                go_wp2_with fail
                go_roundg (N - (j + 1))
                case measure => have := HG.out; have := HJ.out; omega
                case rel => exact ⟨j + 1, x, hs, ss, o, p, by have := HJ.out; omega, by have := HJ.out; omega, rfl, rfl, HI.out.os, HSS.out, by have := HHJ.out; omega, by have := HN2.out; omega, by have := HM2.out; omega⟩
        · have hx : ¬ (j < N ∧ j < 80) := hlt
          rcases Nat.lt_or_ge j N with hjN | hjN
          · have b3 : (j : Int) < (N : Int) := by omega
            have b6 : ¬ (j : Int) < 80 := by omega
            clear hjN
            clear hx
            have CS := Lib.hid ((HOS.out.vs.since (by have := HHJ.out; omega) 0).mono (fun e w' h => by obtain ⟨v', rfl, h1, h2⟩ := h; rw [since_all HOS.out.vs.made.2] at h1; exact ⟨v', rfl, h1.owO, h2⟩ : ∀ e w', _ → ∃ v', e = .returned v' ∧ Sh.OwO eG w' wr.heap.size v' hs ∧ Below wr.heap.size wr w'))
            go_upto_region 35 with (go_at_call 11; (with_reducible refine (CS.out).mono ?_); rintro e V1 ⟨lv, rfl, ho1, hb1⟩)
            have HOS1 := Lib.hid (HOS.out.step hb1)
            obtain ⟨OL, cL, hlv, _⟩ := ho1.form
            subst hlv
            have HRD := Lib.hid ho1.rd
            clear HOS CS hb1 ho1
            obtain ⟨M, hM⟩ : ∃ M, hs.length = M := ⟨_, rfl⟩
            rw [hM] at HRD ⊢
            have HM := Lib.hid hM; clear hM
            have HM80 : Hid (M ≤ 80) := Lib.hid (by have := HHJ.out; have := HM.out; omega)
            go_wp2_with fail
            go_loopg [22] M (fun gh s22 wx => ∃ i7 : Nat, i7 ≤ M ∧ gh = M - i7 ∧ s22 = .int .i64 (i7 : Int) ∧ OS c w wx g x hs (.slice (some ⟨gr, off, none⟩) 8 cp) ss q o p ∧ Sh.Rd eG wx (.slice OL M cL) hs)
            case atStart => exact ⟨0, Nat.zero_le _, rfl, rfl, HOS1.out, HRD.out⟩
            case round =>
              clear HOS1 HRD
              obtain ⟨i7, hi, hg, rfl, hos, hrd⟩ := hrel
              have HG2 := Lib.hid hg; have HOS := Lib.hid hos; have HRD := Lib.hid hrd
              clear hg hos hrd
              by_cases hlt : i7 < M
              · have c3 : (i7 : Int) < (M : Int) := by omega
                have c4 : (0 : Int) ≤ (i7 : Int) := by omega
                have HLT := Lib.hid hlt
                obtain ⟨z, hz⟩ : ∃ z, hs[i7]? = some z := ⟨_, List.getElem?_eq_getElem (by have := HM.out; omega)⟩
                have hzi := HOS.out.vs.made.2 i7 z hz
                obtain ⟨b5, o5, rfl, l5, k5⟩ := row_at HRD.out hz
                have k6 : wr.cell? ⟨b5, o5 + i7 * 11, none⟩ = some (.int .i64 ((i7 : Int) + 1)) := by have h := k5 0 (.int .i64 z.ix) rfl; rw [hzi, Nat.add_zero] at h; exact h
                have hw3 : IntKind.i64.wrap ((i7 : Int) + 1) = (i7 : Int) + 1 := IntWalk.i64_in _ (by have := HM80.out; omega)
                clear hlt hi hz hzi k5 l5
                go_wp2_with fail
                go_roundg (M - (i7 + 1))
                case measure => have := HG2.out; have := HLT.out; omega
                case rel => exact ⟨i7 + 1, by have := HLT.out; omega, rfl, rfl, HOS.out, HRD.out⟩
              · obtain rfl : i7 = M := by omega
                clear hlt hi HG2
                have c3 : ¬ (i7 : Int) < (i7 : Int) := by omega
                have HIX : Hid (x.s.b.ix = (i7 : Int)) := Lib.hid (by rw [HOS.out.vs.made.len, HM.out])
                obtain ⟨ob, hob⟩ : ∃ ob, ob = o := ⟨_, rfl⟩
                subst hob
                go_upto_region 40 with fail
                refine AnyOrder.region_kinds2 12 [.eq (x.s.b.V ob p), .eq (ptr g 0), .eq (x.s.V), .eq (x.s.b.V x.s.o x.s.p), .eq (.bool true), .eq (.bool true), .eq (.slice OL i7 cL), .eq (.int .i64 (i7 : Int)), .eq (x.s.b.V ob p), .eq (.int .i64 (i7 : Int)), .eq (.bool true), .eq (.bool true)] (fun wx => Below wr.heap.size wr wx) (by kernel_rfl) (by kernel_rfl) rfl (by kernel_rfl) (below_drewN (Below.refl _ _) 1) (fun p _ _ hp => by simp at hp) ?_ ?_
                · intro i o listed a1 w2 hin ho st hl hdep
                  match i, ho with
                  | 0, ho => (injection ho with ho; subst ho; have ec : ∀ v, a1.eval (.const v) = v := fun _ => rfl; have ef : ∀ f, a1.eval (.func f) = .func (.func f) #[] #[] := fun _ => rfl; have e0 : a1.eval (.tmp 8) = ptr q 0 := st.old hl 8 (by kernel_rfl); exact AnyOrder.step_value rfl (AnyOrder.wanted_none rfl) (x.s.b.V ob p) (run_load_bk e0 (HOS.out.step st.inv).bk) st.inv (Below.refl _ _) rfl)
                  | 1, ho => (injection ho with ho; subst ho; have ec : ∀ v, a1.eval (.const v) = v := fun _ => rfl; have ef : ∀ f, a1.eval (.func f) = .func (.func f) #[] #[] := fun _ => rfl; have e0 : a1.eval (.tmp 5) = ptr g 0 := st.old hl 5 (by kernel_rfl); exact AnyOrder.step_value rfl (AnyOrder.wanted_none rfl) (ptr g 0) (AnyOrder.run_move e0) st.inv (Below.refl _ _) rfl)
                  | 2, ho => (injection ho with ho; subst ho; have ec : ∀ v, a1.eval (.const v) = v := fun _ => rfl; have ef : ∀ f, a1.eval (.func f) = .func (.func f) #[] #[] := fun _ => rfl; have e0 : a1.eval (.tmp 173) = ptr g 0 := st.done 1 173 (hdep ⟨1, .data⟩ (by simp) rfl) rfl; exact AnyOrder.step_call rfl (AnyOrder.wanted_none rfl) 14 #[ptr g 0] (by generalize a1.eval = ρ at ec ef e0 ⊢; simp [execOp, ec, ef, e0, go_sem]) ((((HOS.out.step st.inv).vs.read)).mono (fun e w3 h => by obtain ⟨rfl, hb⟩ := h; exact ⟨_, rfl, st.inv.trans (hb.mono st.inv.size), hb, rfl⟩)))
                  | 3, ho => (injection ho with ho; subst ho; have ec : ∀ v, a1.eval (.const v) = v := fun _ => rfl; have ef : ∀ f, a1.eval (.func f) = .func (.func f) #[] #[] := fun _ => rfl; have e0 : a1.eval (.tmp 174) = x.s.V := st.done 2 174 (hdep ⟨2, .data⟩ (by simp) rfl) rfl; exact AnyOrder.step_value rfl (AnyOrder.wanted_none rfl) (x.s.b.V x.s.o x.s.p) (by have h := run_field_bk x.s w2; generalize a1.eval = ρ at ec ef e0 ⊢; simp [execOp, e0, h]) st.inv (Below.refl _ _) rfl)
                  | 4, ho => (injection ho with ho; subst ho; have ec : ∀ v, a1.eval (.const v) = v := fun _ => rfl; have ef : ∀ f, a1.eval (.func f) = .func (.func f) #[] #[] := fun _ => rfl; have e0 : a1.eval (.tmp 172) = x.s.b.V ob p := st.done 0 172 (hdep ⟨0, .data⟩ (by simp) rfl) rfl; have e1 : a1.eval (.tmp 175) = x.s.b.V x.s.o x.s.p := st.done 3 175 (hdep ⟨3, .data⟩ (by simp) rfl) rfl; exact AnyOrder.step_call rfl (AnyOrder.wanted_none rfl) 27 #[x.s.b.V ob p, x.s.b.V x.s.o x.s.p] (by generalize a1.eval = ρ at ec ef e0 e1 ⊢; simp [execOp, ec, ef, e0, e1, go_sem]) (((same_book (HOS.out.step st.inv).ba (HOS.out.step st.inv).vs.at_)).mono (fun e w3 h => by obtain ⟨rfl, hb⟩ := h; exact ⟨_, rfl, st.inv.trans (hb.mono st.inv.size), hb, rfl⟩)))
                  | 5, ho => (injection ho with ho; subst ho; have ec : ∀ v, a1.eval (.const v) = v := fun _ => rfl; have ef : ∀ f, a1.eval (.func f) = .func (.func f) #[] #[] := fun _ => rfl; have e0 : a1.eval (.tmp 176) = .bool true := st.done 4 176 (hdep ⟨4, .data⟩ (by simp) rfl) rfl; exact AnyOrder.step_value rfl (AnyOrder.wanted_none rfl) (.bool true) (AnyOrder.run_move e0) st.inv (Below.refl _ _) rfl)
                  | 6, ho => (injection ho with ho; subst ho; have ec : ∀ v, a1.eval (.const v) = v := fun _ => rfl; have ef : ∀ f, a1.eval (.func f) = .func (.func f) #[] #[] := fun _ => rfl; have e0 : a1.eval (.tmp 21) = .slice OL i7 cL := st.old hl 21 (by kernel_rfl); have eg : a1.eval (.tmp 177) = .bool true := st.done 5 177 (hdep ⟨5, .guard⟩ (by simp) rfl) rfl; exact AnyOrder.step_value rfl ((AnyOrder.wanted_of rfl rfl eg).trans rfl) (.slice OL i7 cL) (AnyOrder.run_move e0) st.inv (Below.refl _ _) rfl)
                  | 7, ho => (injection ho with ho; subst ho; have ec : ∀ v, a1.eval (.const v) = v := fun _ => rfl; have ef : ∀ f, a1.eval (.func f) = .func (.func f) #[] #[] := fun _ => rfl; have e0 : a1.eval (.tmp 178) = .slice OL i7 cL := st.done 6 178 (hdep ⟨6, .data⟩ (by simp) rfl) rfl; have eg : a1.eval (.tmp 177) = .bool true := st.done 5 177 (hdep ⟨5, .guard⟩ (by simp) rfl) rfl; exact AnyOrder.step_value rfl ((AnyOrder.wanted_of rfl rfl eg).trans rfl) (.int .i64 (i7 : Int)) (by generalize a1.eval = ρ at ec ef e0 ⊢; simp [execOp, ec, ef, e0, IntWalk.i64_left, go_sem]) st.inv (Below.refl _ _) rfl)
                  | 8, ho => (injection ho with ho; subst ho; have ec : ∀ v, a1.eval (.const v) = v := fun _ => rfl; have ef : ∀ f, a1.eval (.func f) = .func (.func f) #[] #[] := fun _ => rfl; have e0 : a1.eval (.tmp 8) = ptr q 0 := st.old hl 8 (by kernel_rfl); have eg : a1.eval (.tmp 177) = .bool true := st.done 5 177 (hdep ⟨5, .guard⟩ (by simp) rfl) rfl; exact AnyOrder.step_value rfl ((AnyOrder.wanted_of rfl rfl eg).trans rfl) (x.s.b.V ob p) (run_load_bk e0 (HOS.out.step st.inv).bk) st.inv (Below.refl _ _) rfl)
                  | 9, ho => (injection ho with ho; subst ho; have ec : ∀ v, a1.eval (.const v) = v := fun _ => rfl; have ef : ∀ f, a1.eval (.func f) = .func (.func f) #[] #[] := fun _ => rfl; have e0 : a1.eval (.tmp 180) = x.s.b.V ob p := st.done 8 180 (hdep ⟨8, .data⟩ (by simp) rfl) rfl; have eg : a1.eval (.tmp 177) = .bool true := st.done 5 177 (hdep ⟨5, .chain⟩ (by simp) rfl) rfl; exact AnyOrder.step_call rfl ((AnyOrder.wanted_of rfl rfl eg).trans rfl) 22 #[x.s.b.V ob p] (by generalize a1.eval = ρ at ec ef e0 ⊢; simp [execOp, ec, ef, e0, go_sem]) (((by have h := index_any x.s.b ob p w2; rw [HIX.out] at h; exact h : Calls Tryz.prog 22 #[x.s.b.V ob p] w2 (Num w2 (i7 : Int)))).mono (fun e w3 h => by obtain ⟨rfl, hb⟩ := h; exact ⟨_, rfl, st.inv.trans (hb.mono st.inv.size), hb, rfl⟩)))
                  | 10, ho => (injection ho with ho; subst ho; have ec : ∀ v, a1.eval (.const v) = v := fun _ => rfl; have ef : ∀ f, a1.eval (.func f) = .func (.func f) #[] #[] := fun _ => rfl; have e0 : a1.eval (.tmp 179) = .int .i64 (i7 : Int) := st.done 7 179 (hdep ⟨7, .data⟩ (by simp) rfl) rfl; have e1 : a1.eval (.tmp 181) = .int .i64 (i7 : Int) := st.done 9 181 (hdep ⟨9, .data⟩ (by simp) rfl) rfl; have eg : a1.eval (.tmp 177) = .bool true := st.done 5 177 (hdep ⟨5, .guard⟩ (by simp) rfl) rfl; exact AnyOrder.step_value rfl ((AnyOrder.wanted_of rfl rfl eg).trans rfl) (.bool true) (by generalize a1.eval = ρ at ec ef e0 e1 ⊢; simp [execOp, ec, ef, e0, e1, IntWalk.i64_left, go_sem]) st.inv (Below.refl _ _) rfl)
                  | 11, ho => (injection ho with ho; subst ho; have ec : ∀ v, a1.eval (.const v) = v := fun _ => rfl; have ef : ∀ f, a1.eval (.func f) = .func (.func f) #[] #[] := fun _ => rfl; have e0 : a1.eval (.tmp 177) = .bool true := st.done 5 177 (hdep ⟨5, .data⟩ (by simp) rfl) rfl; have e1 : a1.eval (.tmp 182) = .bool true := st.done 10 182 (hdep ⟨10, .data⟩ (by simp) rfl) rfl; exact AnyOrder.step_value rfl (AnyOrder.wanted_none rfl) (.bool true) (by generalize a1.eval = ρ at ec ef e0 e1 ⊢; simp [execOp, ec, ef, e0, e1, IntWalk.i64_left, go_sem]) st.inv (Below.refl _ _) rfl)
                  | n + 12, ho => exact absurd hin (by omega)
                · intro wz hJz
                  simp only [AnyOrder.finK, List.take_succ_cons, List.take_zero, List.drop_succ_cons, List.drop_zero, Act.put, List.setIfInBounds_toArray, List.set_cons_zero, List.set_cons_succ]
                  go_wp2_with fail
                  go_ret
                  exact ⟨rfl, HOS.out.vs.bel.trans (hJz.mono HOS.out.vs.bel.size)⟩
          · have b3 : ¬ (j : Int) < (N : Int) := by omega
            clear hjN
            clear hx
            have CS := Lib.hid ((HOS.out.vs.since (by have := HHJ.out; omega) 0).mono (fun e w' h => by obtain ⟨v', rfl, h1, h2⟩ := h; rw [since_all HOS.out.vs.made.2] at h1; exact ⟨v', rfl, h1.owO, h2⟩ : ∀ e w', _ → ∃ v', e = .returned v' ∧ Sh.OwO eG w' wr.heap.size v' hs ∧ Below wr.heap.size wr w'))
            go_upto_region 35 with (go_at_call 11; (with_reducible refine (CS.out).mono ?_); rintro e V1 ⟨lv, rfl, ho1, hb1⟩)
            have HOS1 := Lib.hid (HOS.out.step hb1)
            obtain ⟨OL, cL, hlv, _⟩ := ho1.form
            subst hlv
            have HRD := Lib.hid ho1.rd
            clear HOS CS hb1 ho1
            obtain ⟨M, hM⟩ : ∃ M, hs.length = M := ⟨_, rfl⟩
            rw [hM] at HRD ⊢
            have HM := Lib.hid hM; clear hM
            have HM80 : Hid (M ≤ 80) := Lib.hid (by have := HHJ.out; have := HM.out; omega)
            go_wp2_with fail
            go_loopg [22] M (fun gh s22 wx => ∃ i7 : Nat, i7 ≤ M ∧ gh = M - i7 ∧ s22 = .int .i64 (i7 : Int) ∧ OS c w wx g x hs (.slice (some ⟨gr, off, none⟩) 8 cp) ss q o p ∧ Sh.Rd eG wx (.slice OL M cL) hs)
            case atStart => exact ⟨0, Nat.zero_le _, rfl, rfl, HOS1.out, HRD.out⟩
            case round =>
              clear HOS1 HRD
              obtain ⟨i7, hi, hg, rfl, hos, hrd⟩ := hrel
              have HG2 := Lib.hid hg; have HOS := Lib.hid hos; have HRD := Lib.hid hrd
              clear hg hos hrd
              by_cases hlt : i7 < M
              · have c3 : (i7 : Int) < (M : Int) := by omega
                have c4 : (0 : Int) ≤ (i7 : Int) := by omega
                have HLT := Lib.hid hlt
                obtain ⟨z, hz⟩ : ∃ z, hs[i7]? = some z := ⟨_, List.getElem?_eq_getElem (by have := HM.out; omega)⟩
                have hzi := HOS.out.vs.made.2 i7 z hz
                obtain ⟨b5, o5, rfl, l5, k5⟩ := row_at HRD.out hz
                have k6 : wr.cell? ⟨b5, o5 + i7 * 11, none⟩ = some (.int .i64 ((i7 : Int) + 1)) := by have h := k5 0 (.int .i64 z.ix) rfl; rw [hzi, Nat.add_zero] at h; exact h
                have hw3 : IntKind.i64.wrap ((i7 : Int) + 1) = (i7 : Int) + 1 := IntWalk.i64_in _ (by have := HM80.out; omega)
                clear hlt hi hz hzi k5 l5
                go_wp2_with fail
                go_roundg (M - (i7 + 1))
                case measure => have := HG2.out; have := HLT.out; omega
                case rel => exact ⟨i7 + 1, by have := HLT.out; omega, rfl, rfl, HOS.out, HRD.out⟩
              · obtain rfl : i7 = M := by omega
                clear hlt hi HG2
                have c3 : ¬ (i7 : Int) < (i7 : Int) := by omega
                have HIX : Hid (x.s.b.ix = (i7 : Int)) := Lib.hid (by rw [HOS.out.vs.made.len, HM.out])
                obtain ⟨ob, hob⟩ : ∃ ob, ob = o := ⟨_, rfl⟩
                subst hob
                go_upto_region 40 with fail
                refine AnyOrder.region_kinds2 12 [.eq (x.s.b.V ob p), .eq (ptr g 0), .eq (x.s.V), .eq (x.s.b.V x.s.o x.s.p), .eq (.bool true), .eq (.bool true), .eq (.slice OL i7 cL), .eq (.int .i64 (i7 : Int)), .eq (x.s.b.V ob p), .eq (.int .i64 (i7 : Int)), .eq (.bool true), .eq (.bool true)] (fun wx => Below wr.heap.size wr wx) (by kernel_rfl) (by kernel_rfl) rfl (by kernel_rfl) (below_drewN (Below.refl _ _) 1) (fun p _ _ hp => by simp at hp) ?_ ?_
                · intro i o listed a1 w2 hin ho st hl hdep
                  match i, ho with
                  | 0, ho => (injection ho with ho; subst ho; have ec : ∀ v, a1.eval (.const v) = v := fun _ => rfl; have ef : ∀ f, a1.eval (.func f) = .func (.func f) #[] #[] := fun _ => rfl; have e0 : a1.eval (.tmp 8) = ptr q 0 := st.old hl 8 (by kernel_rfl); exact AnyOrder.step_value rfl (AnyOrder.wanted_none rfl) (x.s.b.V ob p) (run_load_bk e0 (HOS.out.step st.inv).bk) st.inv (Below.refl _ _) rfl)
                  | 1, ho => (injection ho with ho; subst ho; have ec : ∀ v, a1.eval (.const v) = v := fun _ => rfl; have ef : ∀ f, a1.eval (.func f) = .func (.func f) #[] #[] := fun _ => rfl; have e0 : a1.eval (.tmp 5) = ptr g 0 := st.old hl 5 (by kernel_rfl); exact AnyOrder.step_value rfl (AnyOrder.wanted_none rfl) (ptr g 0) (AnyOrder.run_move e0) st.inv (Below.refl _ _) rfl)
                  | 2, ho => (injection ho with ho; subst ho; have ec : ∀ v, a1.eval (.const v) = v := fun _ => rfl; have ef : ∀ f, a1.eval (.func f) = .func (.func f) #[] #[] := fun _ => rfl; have e0 : a1.eval (.tmp 173) = ptr g 0 := st.done 1 173 (hdep ⟨1, .data⟩ (by simp) rfl) rfl; exact AnyOrder.step_call rfl (AnyOrder.wanted_none rfl) 14 #[ptr g 0] (by generalize a1.eval = ρ at ec ef e0 ⊢; simp [execOp, ec, ef, e0, go_sem]) ((((HOS.out.step st.inv).vs.read)).mono (fun e w3 h => by obtain ⟨rfl, hb⟩ := h; exact ⟨_, rfl, st.inv.trans (hb.mono st.inv.size), hb, rfl⟩)))
                  | 3, ho => (injection ho with ho; subst ho; have ec : ∀ v, a1.eval (.const v) = v := fun _ => rfl; have ef : ∀ f, a1.eval (.func f) = .func (.func f) #[] #[] := fun _ => rfl; have e0 : a1.eval (.tmp 174) = x.s.V := st.done 2 174 (hdep ⟨2, .data⟩ (by simp) rfl) rfl; exact AnyOrder.step_value rfl (AnyOrder.wanted_none rfl) (x.s.b.V x.s.o x.s.p) (by have h := run_field_bk x.s w2; generalize a1.eval = ρ at ec ef e0 ⊢; simp [execOp, e0, h]) st.inv (Below.refl _ _) rfl)
                  | 4, ho => (injection ho with ho; subst ho; have ec : ∀ v, a1.eval (.const v) = v := fun _ => rfl; have ef : ∀ f, a1.eval (.func f) = .func (.func f) #[] #[] := fun _ => rfl; have e0 : a1.eval (.tmp 172) = x.s.b.V ob p := st.done 0 172 (hdep ⟨0, .data⟩ (by simp) rfl) rfl; have e1 : a1.eval (.tmp 175) = x.s.b.V x.s.o x.s.p := st.done 3 175 (hdep ⟨3, .data⟩ (by simp) rfl) rfl; exact AnyOrder.step_call rfl (AnyOrder.wanted_none rfl) 27 #[x.s.b.V ob p, x.s.b.V x.s.o x.s.p] (by generalize a1.eval = ρ at ec ef e0 e1 ⊢; simp [execOp, ec, ef, e0, e1, go_sem]) (((same_book (HOS.out.step st.inv).ba (HOS.out.step st.inv).vs.at_)).mono (fun e w3 h => by obtain ⟨rfl, hb⟩ := h; exact ⟨_, rfl, st.inv.trans (hb.mono st.inv.size), hb, rfl⟩)))
                  | 5, ho => (injection ho with ho; subst ho; have ec : ∀ v, a1.eval (.const v) = v := fun _ => rfl; have ef : ∀ f, a1.eval (.func f) = .func (.func f) #[] #[] := fun _ => rfl; have e0 : a1.eval (.tmp 176) = .bool true := st.done 4 176 (hdep ⟨4, .data⟩ (by simp) rfl) rfl; exact AnyOrder.step_value rfl (AnyOrder.wanted_none rfl) (.bool true) (AnyOrder.run_move e0) st.inv (Below.refl _ _) rfl)
                  | 6, ho => (injection ho with ho; subst ho; have ec : ∀ v, a1.eval (.const v) = v := fun _ => rfl; have ef : ∀ f, a1.eval (.func f) = .func (.func f) #[] #[] := fun _ => rfl; have e0 : a1.eval (.tmp 21) = .slice OL i7 cL := st.old hl 21 (by kernel_rfl); have eg : a1.eval (.tmp 177) = .bool true := st.done 5 177 (hdep ⟨5, .guard⟩ (by simp) rfl) rfl; exact AnyOrder.step_value rfl ((AnyOrder.wanted_of rfl rfl eg).trans rfl) (.slice OL i7 cL) (AnyOrder.run_move e0) st.inv (Below.refl _ _) rfl)
                  | 7, ho => (injection ho with ho; subst ho; have ec : ∀ v, a1.eval (.const v) = v := fun _ => rfl; have ef : ∀ f, a1.eval (.func f) = .func (.func f) #[] #[] := fun _ => rfl; have e0 : a1.eval (.tmp 178) = .slice OL i7 cL := st.done 6 178 (hdep ⟨6, .data⟩ (by simp) rfl) rfl; have eg : a1.eval (.tmp 177) = .bool true := st.done 5 177 (hdep ⟨5, .guard⟩ (by simp) rfl) rfl; exact AnyOrder.step_value rfl ((AnyOrder.wanted_of rfl rfl eg).trans rfl) (.int .i64 (i7 : Int)) (by generalize a1.eval = ρ at ec ef e0 ⊢; simp [execOp, ec, ef, e0, IntWalk.i64_left, go_sem]) st.inv (Below.refl _ _) rfl)
                  | 8, ho => (injection ho with ho; subst ho; have ec : ∀ v, a1.eval (.const v) = v := fun _ => rfl; have ef : ∀ f, a1.eval (.func f) = .func (.func f) #[] #[] := fun _ => rfl; have e0 : a1.eval (.tmp 8) = ptr q 0 := st.old hl 8 (by kernel_rfl); have eg : a1.eval (.tmp 177) = .bool true := st.done 5 177 (hdep ⟨5, .guard⟩ (by simp) rfl) rfl; exact AnyOrder.step_value rfl ((AnyOrder.wanted_of rfl rfl eg).trans rfl) (x.s.b.V ob p) (run_load_bk e0 (HOS.out.step st.inv).bk) st.inv (Below.refl _ _) rfl)
                  | 9, ho => (injection ho with ho; subst ho; have ec : ∀ v, a1.eval (.const v) = v := fun _ => rfl; have ef : ∀ f, a1.eval (.func f) = .func (.func f) #[] #[] := fun _ => rfl; have e0 : a1.eval (.tmp 180) = x.s.b.V ob p := st.done 8 180 (hdep ⟨8, .data⟩ (by simp) rfl) rfl; have eg : a1.eval (.tmp 177) = .bool true := st.done 5 177 (hdep ⟨5, .chain⟩ (by simp) rfl) rfl; exact AnyOrder.step_call rfl ((AnyOrder.wanted_of rfl rfl eg).trans rfl) 22 #[x.s.b.V ob p] (by generalize a1.eval = ρ at ec ef e0 ⊢; simp [execOp, ec, ef, e0, go_sem]) (((by have h := index_any x.s.b ob p w2; rw [HIX.out] at h; exact h : Calls Tryz.prog 22 #[x.s.b.V ob p] w2 (Num w2 (i7 : Int)))).mono (fun e w3 h => by obtain ⟨rfl, hb⟩ := h; exact ⟨_, rfl, st.inv.trans (hb.mono st.inv.size), hb, rfl⟩)))
                  | 10, ho => (injection ho with ho; subst ho; have ec : ∀ v, a1.eval (.const v) = v := fun _ => rfl; have ef : ∀ f, a1.eval (.func f) = .func (.func f) #[] #[] := fun _ => rfl; have e0 : a1.eval (.tmp 179) = .int .i64 (i7 : Int) := st.done 7 179 (hdep ⟨7, .data⟩ (by simp) rfl) rfl; have e1 : a1.eval (.tmp 181) = .int .i64 (i7 : Int) := st.done 9 181 (hdep ⟨9, .data⟩ (by simp) rfl) rfl; have eg : a1.eval (.tmp 177) = .bool true := st.done 5 177 (hdep ⟨5, .guard⟩ (by simp) rfl) rfl; exact AnyOrder.step_value rfl ((AnyOrder.wanted_of rfl rfl eg).trans rfl) (.bool true) (by generalize a1.eval = ρ at ec ef e0 e1 ⊢; simp [execOp, ec, ef, e0, e1, IntWalk.i64_left, go_sem]) st.inv (Below.refl _ _) rfl)
                  | 11, ho => (injection ho with ho; subst ho; have ec : ∀ v, a1.eval (.const v) = v := fun _ => rfl; have ef : ∀ f, a1.eval (.func f) = .func (.func f) #[] #[] := fun _ => rfl; have e0 : a1.eval (.tmp 177) = .bool true := st.done 5 177 (hdep ⟨5, .data⟩ (by simp) rfl) rfl; have e1 : a1.eval (.tmp 182) = .bool true := st.done 10 182 (hdep ⟨10, .data⟩ (by simp) rfl) rfl; exact AnyOrder.step_value rfl (AnyOrder.wanted_none rfl) (.bool true) (by generalize a1.eval = ρ at ec ef e0 e1 ⊢; simp [execOp, ec, ef, e0, e1, IntWalk.i64_left, go_sem]) st.inv (Below.refl _ _) rfl)
                  | n + 12, ho => exact absurd hin (by omega)
                · intro wz hJz
                  simp only [AnyOrder.finK, List.take_succ_cons, List.take_zero, List.drop_succ_cons, List.drop_zero, Act.put, List.setIfInBounds_toArray, List.set_cons_zero, List.set_cons_succ]
                  go_wp2_with fail
                  go_ret
                  exact ⟨rfl, HOS.out.vs.bel.trans (hJz.mono HOS.out.vs.bel.size)⟩
end Go.Proofs.YtlmdhkaplemjpaaGreat
