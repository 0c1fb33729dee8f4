/- BucketRate: its walk. -/
import Derived.Test.YtepfgheliddpmaaBuRp
import Derived.BigQuiet
namespace Go.Proofs.Ytepfgheliddpmaa
open Go.RowKit Go.Lib
set_option linter.unusedVariables false
set_option linter.unusedSimpArgs false

set_option maxRecDepth 100000 in
set_option maxHeartbeats 4000000 in
theorem bucketRate_ok (c : Cfg) (A : Option Addr) (cap : Nat) (zs : List Int) (w : World) (hzi : ∀ y ∈ zs, inI64 y) (hA : IntsAt w w.heap.size A zs) (hl : zs.length ≤ maxLen) :
    Calls Try.prog 4 #[c.V, .slice A zs.length cap] w fun e w' => e = .returned (.bool true) ∧ Below w.heap.size w w' := by
  unfold maxLen at hl
  clear hzi
  have H := Lib.hid (new1 w c.cells 24)
  have CN := Lib.hid (fun W => new_any c 0 W)
  have CK := Lib.hid (fun W => bcheck_any c ⟨c.get 7, 0⟩ W)
  have CU := Lib.hid (fun W => buntil_any c ⟨c.get 7, 0⟩ 0 W)
  have HA := Lib.hid hA; clear hA
  by_cases g1 : 200 < zs.length
  · go_enter Try.func4, Try.ntmps4
    go_upto_region 1 with fail
    obtain ⟨W, hW⟩ : ∃ W, w.alloc (.cells c.cells 24) = W := ⟨_, rfl⟩
    rw [hW] at H ⊢; clear hW
    have HC : Hid (CAt W w.heap.size c) := Lib.hid H.out.2
    have HB := Lib.hid H.out.1
    clear H
    go_wp2_with fail
    refine (awake_any _).mono ?_
    rintro e w1 ⟨rfl, hb⟩
    replace HC := Lib.hid (HC.out.step hb)
    replace HB := Lib.hid (HB.out.trans (hb.mono HB.out.size))
    clear hb
    go_wp2_with fail
    go_ret
    exact ⟨rfl, HB.out⟩
  by_cases hk : okc c = true
  · have HK := Lib.hid hk
    have e0 : okB c (c.get 7) 0 = true := by
      have hB := burst_in hk
      exact okB_iff.2 ⟨hk, by omega, Int.le_refl _, by rfl⟩
    rw [e0] at CK
    clear e0 hk CU
    go_enter Try.func4, Try.ntmps4
    go_upto_region 1 with fail
    obtain ⟨W, hW⟩ : ∃ W, w.alloc (.cells c.cells 24) = W := ⟨_, rfl⟩
    rw [hW] at H ⊢; clear hW
    have HC : Hid (CAt W w.heap.size c) := Lib.hid H.out.2
    have HB := Lib.hid H.out.1
    clear H
    go_wp2_with fail
    refine (awake_any _).mono ?_
    rintro e w1 ⟨rfl, hb⟩
    replace HC := Lib.hid (HC.out.step hb)
    replace HB := Lib.hid (HB.out.trans (hb.mono HB.out.size))
    clear hb
    go_wp2_with ((with_reducible apply wpList_load_cat (h := HC.out)); exact rfl; exact rfl; exact rfl)
    refine (CN.out _).mono ?_
    rintro e w2 ⟨rfl, hb⟩
    replace HC := Lib.hid (HC.out.step hb)
    replace HB := Lib.hid (HB.out.trans (hb.mono HB.out.size))
    clear hb CN
    go_upto_region 6 with (refine wpList_store_row rfl 26 _ _ rfl _ (⟨c.get 7, 0⟩ : Bt).cells rfl rfl 26 _ (heap_alloc_new _ _) (sizeBt _) rfl (Bt.one _) ?_; rw [World.setRow_alloc_new])
    have HS := Lib.hid (show CB w (w2.alloc (.cells (⟨c.get 7, 0⟩ : Bt).cells 26)) w.heap.size w2.heap.size c ⟨c.get 7, 0⟩ from ⟨HC.out.step (below_new _ _), BtAt.new _ _, HB.out.size, HB.out.trans ((below_new _ _).mono HB.out.size)⟩)
    obtain ⟨V, hV⟩ : ∃ V, w2.alloc (.cells (⟨c.get 7, 0⟩ : Bt).cells 26) = V := ⟨_, rfl⟩
    rw [hV] at HS ⊢; clear hV HC HB
    generalize w2.heap.size = q at *
    go_wp2_with (first | ((with_reducible apply wpList_load_cat (h := HS.out.cf)); exact rfl; exact rfl; exact rfl) | ((with_reducible apply wpList_load_bt (h := HS.out.bt)); exact rfl; exact rfl; exact rfl))
    refine (CK.out _).mono ?_
    rintro e w3 ⟨rfl, hb⟩
    replace HS := Lib.hid (HS.out.step hb)
    clear hb CK
    go_upto_region 10 with fail
    have HS' := Lib.hid (show RS w (w3.alloc (.cells #[] 3)) w.heap.size q c ⟨c.get 7, 0⟩ (.slice (some ⟨w3.heap.size, 0, none⟩) 0 0) [] from ⟨HS.out.step (below_new _ _), own_lit0 w3 HS.out.bel.size⟩)
    obtain ⟨V0, hV⟩ : ∃ V0, w3.alloc (.cells #[] 3) = V0 := ⟨_, rfl⟩
    rw [hV] at HS' ⊢; clear hV HS
    generalize w3.heap.size = s0 at *
    have HS := HS'; clear HS'
    go_wp2_with fail
    go_loopg [6, 7, 8] zs.length (fun gh s6 s7 s8 wx => ∃ (j : Nat) (nw : Int) (b : Bt) (v : Value) (l : List Int), j ≤ zs.length ∧ gh = zs.length - j ∧ s8 = .int .i64 (j : Int) ∧ s6 = .int .i64 nw ∧ v = s7 ∧ PL c j nw b l ∧ RS w wx w.heap.size q c b v l)
    case atStart => exact ⟨0, 0, ⟨c.get 7, 0⟩, _, [], Nat.zero_le _, rfl, rfl, rfl, rfl, PL.start HK.out, HS.out⟩
    case round =>
      obtain ⟨j, nw, b, v, l, hj, hg, rfl, rfl, rfl, hpl, hst⟩ := hrel
      have HG := Lib.hid hg; have HP := Lib.hid hpl; replace HS := Lib.hid hst; clear hg hpl hst
      by_cases hlt : j < zs.length
      · obtain ⟨b1, o1, rfl, _, hc1⟩ := (HA.out.keep HS.out.cb.bel) j hlt
        generalize zs.getD j 0 = z at hc1
        have b3 : (j : Int) < (zs.length : Int) := by omega
        have b4 : (0 : Int) ≤ (j : Int) := by omega
        obtain ⟨g, hg0, hg3, hgz⟩ := gap_of z
        have HGG := Lib.hid (And.intro hg0 hg3)
        have hlo := HP.out.lo
        have hhi := HP.out.hi
        have e1 : IntKind.i64.wrap g = g := i64w (by omega) (by omega)
        have e2 : IntKind.i64.wrap (nw + g) = nw + g := i64w (by omega) (by omega)
        have CU := Lib.hid (fun W => buntil_any c b (nw + g) W)
        have CT := Lib.hid (fun W => btake_any c b (nw + g) W)
        by_cases hx : 0 < lev c b.tok b.last (nw + g)
        · obtain ⟨hun, htk, hok, hpl'⟩ := HP.out.yes (by omega) HGG.out hx
          have HP' := Lib.hid hpl'; clear hpl'
          rw [hun] at CU
          have CV := Lib.hid CT.out
          rw [htk, decide_eq_true hx] at CT CV
          have CK := Lib.hid (fun W => bcheck_any c ⟨lev c b.tok b.last (nw + g) - 1, nw + g⟩ W)
          rw [hok] at CK
          have hll := HP.out.len
          clear hun htk hok hx
          generalize lev c b.tok b.last (nw + g) = n at *
          go_upto_region 14 with fail
          go_wp2_with (first | ((with_reducible apply wpList_load_cat (h := HS.out.cb.cf)); exact rfl; exact rfl; exact rfl) | ((with_reducible apply wpList_load_bt (h := HS.out.cb.bt)); exact rfl; exact rfl; exact rfl))
          refine (CU.out _).mono ?_
          rintro e w1 ⟨rfl, hb⟩
          replace HS := Lib.hid (HS.out.step hb)
          clear hb CU
          go_wp2_with (first | ((with_reducible apply wpList_load_cat (h := HS.out.cb.cf)); exact rfl; exact rfl; exact rfl) | ((with_reducible apply wpList_load_bt (h := HS.out.cb.bt)); exact rfl; exact rfl; exact rfl))
          refine (CT.out _).mono ?_
          rintro e w2 ⟨rfl, hb⟩
          replace HS := Lib.hid (HS.out.step hb)
          clear hb CT
          go_upto_region 16 with (refine wpList_store_row rfl 26 _ _ rfl _ (⟨n - 1, nw + g⟩ : Bt).cells rfl rfl 26 _ (heap_alloc_new _ _) (sizeBt _) rfl (Bt.one _) ?_; rw [World.setRow_alloc_new])
          have HD := Lib.hid (HS.out.cb.new ⟨n - 1, nw + g⟩).2
          replace HS := Lib.hid (HS.out.step (below_new _ (.cells (Bt.cells ⟨n - 1, nw + g⟩) 26)))
          obtain ⟨V, hV⟩ : ∃ V, w2.alloc (.cells (Bt.cells ⟨n - 1, nw + g⟩) 26) = V := ⟨_, rfl⟩
          rw [hV] at HD HS ⊢; clear hV
          generalize w2.heap.size = s at *
          go_wp2_with (first | ((with_reducible apply wpList_load_bt (h := HD.out)); exact rfl; exact rfl; exact rfl) | ((with_reducible apply wpList_load_cat (h := HS.out.cb.cf)); exact rfl; exact rfl; exact rfl) | ((with_reducible apply wpList_load_bt (h := HS.out.cb.bt)); exact rfl; exact rfl; exact rfl) | ((with_reducible apply wpList_neq_bt (c := b) (d := b) (b := false)); exact rfl; exact rfl; exact rfl; exact rfl; exact congrArg not (Bt.beq_self _)))
          refine (CK.out _).mono ?_
          rintro e w3 ⟨rfl, hb⟩
          replace HS := Lib.hid (HS.out.step hb)
          replace HD := Lib.hid (HD.out.step hb)
          clear hb CK
          go_wp2_with (first | ((with_reducible apply wpList_load_cat (h := HS.out.cb.cf)); exact rfl; exact rfl; exact rfl) | ((with_reducible apply wpList_load_bt (h := HS.out.cb.bt)); exact rfl; exact rfl; exact rfl))
          refine (CV.out _).mono ?_
          rintro e w4 ⟨rfl, hb⟩
          replace HS := Lib.hid (HS.out.step hb)
          replace HD := Lib.hid (HD.out.step hb)
          clear hb CV
          go_upto_region 19 with (refine wpList_store_row rfl 26 _ _ rfl _ (⟨n - 1, nw + g⟩ : Bt).cells rfl rfl 26 _ (heap_alloc_new _ _) (sizeBt _) rfl (Bt.one _) ?_; rw [World.setRow_alloc_new])
          replace HS := Lib.hid (HS.out.step (below_new _ (.cells (Bt.cells ⟨n - 1, nw + g⟩) 26)))
          replace HD := Lib.hid (HD.out.step (below_new _ (.cells (Bt.cells ⟨n - 1, nw + g⟩) 26)))
          obtain ⟨V1, hV⟩ : ∃ V1, w4.alloc (.cells (Bt.cells ⟨n - 1, nw + g⟩) 26) = V1 := ⟨_, rfl⟩
          rw [hV] at HD HS ⊢; clear hV
          generalize w4.heap.size = s2 at *
          obtain ⟨v', w5, hr, hst5, hd5⟩ := HS.out.app (x := nw + g) (by omega)
          replace HD := Lib.hid (hd5 _ _ HD.out)
          have HR := Lib.hid hr
          replace HS := Lib.hid hst5; clear hr hst5 hd5
          go_upto_region 23 with (at_builtin; (refine Lib.wpList_append_run _ rfl (.tmp 97) (.tmp 99) 36 36 rfl _ _ rfl rfl v' w5 HR.out ?_))
          go_upto_region 12 with (first | ((with_reducible apply wpList_load_bt (h := HD.out)); exact rfl; exact rfl; exact rfl) | ((with_reducible apply wpList_store_bt (c := ⟨n - 1, nw + g⟩) (hq := HS.out.cb.bt)); exact rfl; exact rfl; exact rfl; exact rfl))
          replace HS := Lib.hid (HS.out.put ⟨n - 1, nw + g⟩)
          obtain ⟨V2, hV⟩ : ∃ V2, w5.setRow q (Bt.cells ⟨n - 1, nw + g⟩) = V2 := ⟨_, rfl⟩
          rw [hV] at HS ⊢; clear hV
          go_wp2_with fail
          go_roundg (zs.length - (j + 1))
          case measure => have := HG.out; omega
          case rel => exact ⟨j + 1, nw + g, ⟨n - 1, nw + g⟩, v', l ++ [nw + g], by omega, rfl, by go_num, rfl, rfl, HP'.out, HS.out⟩
        · obtain ⟨hun, htk, hl1, hpl'⟩ := HP.out.no (by omega) HGG.out hx
          have HP' := Lib.hid hpl'; clear hpl'
          rw [hun] at CU
          rw [htk, decide_eq_false hx] at CT
          have CV := Lib.hid (fun W => btake_any c b (nw + g + 1) W)
          rw [decide_eq_true hl1] at CV
          have CK := Lib.hid (fun W => bcheck_any c b W)
          rw [HP'.out.ok] at CK
          have e3 : IntKind.i64.wrap (nw + g + 1) = nw + g + 1 := i64w (by omega) (by omega)
          clear hun htk hl1 hx
          generalize tkn c b (nw + g + 1) = d2 at *
          go_upto_region 14 with fail
          go_wp2_with (first | ((with_reducible apply wpList_load_cat (h := HS.out.cb.cf)); exact rfl; exact rfl; exact rfl) | ((with_reducible apply wpList_load_bt (h := HS.out.cb.bt)); exact rfl; exact rfl; exact rfl))
          refine (CU.out _).mono ?_
          rintro e w1 ⟨rfl, hb⟩
          replace HS := Lib.hid (HS.out.step hb)
          clear hb CU
          go_wp2_with (first | ((with_reducible apply wpList_load_cat (h := HS.out.cb.cf)); exact rfl; exact rfl; exact rfl) | ((with_reducible apply wpList_load_bt (h := HS.out.cb.bt)); exact rfl; exact rfl; exact rfl))
          refine (CT.out _).mono ?_
          rintro e w2 ⟨rfl, hb⟩
          replace HS := Lib.hid (HS.out.step hb)
          clear hb CT
          go_upto_region 16 with (refine wpList_store_row rfl 26 _ _ rfl _ (b : Bt).cells rfl rfl 26 _ (heap_alloc_new _ _) (sizeBt _) rfl (Bt.one _) ?_; rw [World.setRow_alloc_new])
          have HD := Lib.hid (HS.out.cb.new b).2
          replace HS := Lib.hid (HS.out.step (below_new _ (.cells (Bt.cells b) 26)))
          obtain ⟨V, hV⟩ : ∃ V, w2.alloc (.cells (Bt.cells b) 26) = V := ⟨_, rfl⟩
          rw [hV] at HD HS ⊢; clear hV
          generalize w2.heap.size = s at *
          go_wp2_with (first | ((with_reducible apply wpList_load_bt (h := HD.out)); exact rfl; exact rfl; exact rfl) | ((with_reducible apply wpList_load_cat (h := HS.out.cb.cf)); exact rfl; exact rfl; exact rfl) | ((with_reducible apply wpList_load_bt (h := HS.out.cb.bt)); exact rfl; exact rfl; exact rfl) | ((with_reducible apply wpList_neq_bt (c := b) (d := b) (b := false)); exact rfl; exact rfl; exact rfl; exact rfl; exact congrArg not (Bt.beq_self _)))
          refine (CK.out _).mono ?_
          rintro e w3 ⟨rfl, hb⟩
          replace HS := Lib.hid (HS.out.step hb)
          replace HD := Lib.hid (HD.out.step hb)
          clear hb CK
          go_wp2_with (first | ((with_reducible apply wpList_load_cat (h := HS.out.cb.cf)); exact rfl; exact rfl; exact rfl) | ((with_reducible apply wpList_load_bt (h := HS.out.cb.bt)); exact rfl; exact rfl; exact rfl))
          refine (CV.out _).mono ?_
          rintro e w4 ⟨rfl, hb⟩
          replace HS := Lib.hid (HS.out.step hb)
          replace HD := Lib.hid (HD.out.step hb)
          clear hb CV
          go_upto_region 19 with (refine wpList_store_row rfl 26 _ _ rfl _ (d2 : Bt).cells rfl rfl 26 _ (heap_alloc_new _ _) (sizeBt _) rfl (Bt.one _) ?_; rw [World.setRow_alloc_new])
          replace HS := Lib.hid (HS.out.step (below_new _ (.cells (Bt.cells d2) 26)))
          replace HD := Lib.hid (HD.out.step (below_new _ (.cells (Bt.cells d2) 26)))
          obtain ⟨V1, hV⟩ : ∃ V1, w4.alloc (.cells (Bt.cells d2) 26) = V1 := ⟨_, rfl⟩
          rw [hV] at HD HS ⊢; clear hV
          generalize w4.heap.size = s2 at *
          go_wp2_with fail
          go_roundg (zs.length - (j + 1))
          case measure => have := HG.out; omega
          case rel => exact ⟨j + 1, nw + g, b, _, l, by omega, rfl, by go_num, rfl, rfl, HP'.out, HS.out⟩
      · have HE : Hid (j ≤ 200) := Lib.hid (by omega)
        clear HA
        obtain ⟨O, cp, rfl, hO⟩ := HS.out.own.sl
        have hll := HP.out.len
        have h200 := HE.out
        have hkk := (okB_iff.1 HP.out.ok).1
        have HRT := Lib.hid (rate_in hkk)
        have HBU := Lib.hid (burst_in hkk)
        replace HS := Lib.hid (And.intro HS.out hO)
        clear hkk hO
        go_wp2_with fail
        go_loopg [14] l.length (fun gh s14 wy => ∃ i : Nat, i ≤ l.length ∧ gh = l.length - i ∧ s14 = .int .i64 (i : Int) ∧ RS w wy w.heap.size q c b (.slice O l.length cp) l ∧ IntsAt wy wy.heap.size O l)
        case atStart => exact ⟨0, Nat.zero_le _, rfl, rfl, HS.out⟩
        case round =>
          obtain ⟨i, hi, hg2, rfl, hst⟩ := hrel
          have HG2 := Lib.hid hg2; replace HS := Lib.hid hst; clear hg2 hst
          by_cases hlt2 : i < l.length
          · have b3 : (i : Int) < (l.length : Int) := by omega
            have b4 : (0 : Int) ≤ (i : Int) := by omega
            go_wp2_with fail
            go_loopg [15] (l.length - i) (fun gh s15 wz => ∃ k : Nat, i ≤ k ∧ k ≤ l.length ∧ gh = l.length - k ∧ s15 = .int .i64 (k : Int) ∧ RS w wz w.heap.size q c b (.slice O l.length cp) l ∧ IntsAt wz wz.heap.size O l)
            case atStart => exact ⟨i, Nat.le_refl _, hi, rfl, rfl, HS.out⟩
            case round =>
              obtain ⟨k, hik, hk, hg3, rfl, hst⟩ := hrel
              have HG3 := Lib.hid hg3; replace HS := Lib.hid hst; clear hg3 hst
              by_cases hlt3 : k < l.length
              · obtain ⟨p1, p2, p3, p4, p5⟩ := HP.out.pair HE.out hik hlt3
                obtain ⟨b1, o1, rfl, _, hcs⟩ := HS.out.2.cells hlt3
                have hc1 := hcs k hlt3
                have hc2 := hcs i hlt2
                have kc := HS.out.1.cb.cf.get (k := 7) (by omega)
                have kr := HS.out.1.cb.cf.get (k := 8) (by omega)
                generalize l.getD k 0 = y at *
                generalize l.getD i 0 = x at *
                have hp := rate_in2 HRT.out (x := y - x) (by omega)
                have hbu := HBU.out
                have x1 : IntKind.i64.wrap ((k : Int) - (i : Int)) = (k : Int) - (i : Int) := i64w (by omega) (by omega)
                have x2 : IntKind.i64.wrap ((k : Int) - (i : Int) + 1) = (k : Int) - (i : Int) + 1 := i64w (by omega) (by omega)
                have x3 : IntKind.i64.wrap (y - x) = y - x := i64w (by omega) (by omega)
                have x4 : IntKind.i64.wrap (c.get 8 * (y - x)) = c.get 8 * (y - x) := i64w (by omega) (by omega)
                have x5 : IntKind.i64.wrap (c.get 7 + c.get 8 * (y - x)) = c.get 7 + c.get 8 * (y - x) := i64w (by omega) (by omega)
                have x6 : decide ((k : Int) - (i : Int) + 1 > c.get 7 + c.get 8 * (y - x)) = false := decide_eq_false (by omega)
                have b5 : (k : Int) < (l.length : Int) := by omega
                have b6 : (0 : Int) ≤ (k : Int) := by omega
                clear hp hbu p1 p2 p3 p4 p5 hcs
                go_wp2_with fail
                go_quiet (fail)
                go_wp2_with fail
                go_roundg (l.length - (k + 1))
                case measure => have := HG3.out; omega
                case rel => exact ⟨k + 1, by omega, by omega, rfl, by go_num, by
                  have hd := below_drewN (Below.refl wr.heap.size wr) nq
                  exact ⟨HS.out.1.step hd, (HS.out.2.keep hd).mono hd.size⟩⟩
              · go_wp2_with fail
                go_roundg (l.length - (i + 1))
                case measure => have := HG2.out; omega
                case rel => exact ⟨i + 1, by omega, rfl, by go_num, HS.out⟩
          · go_wp2_with fail
            go_ret
            exact ⟨rfl, HS.out.1.cb.bel⟩
  · have hk' : okc c = false := by simpa using hk
    rw [okB_no hk'] at CK
    have eu : unt c ⟨c.get 7, 0⟩ 0 = -1 := by unfold unt; rw [okB_no hk']; rfl
    rw [eu] at CU
    clear hk hk' eu
    go_enter Try.func4, Try.ntmps4
    go_upto_region 1 with fail
    obtain ⟨W, hW⟩ : ∃ W, w.alloc (.cells c.cells 24) = W := ⟨_, rfl⟩
    rw [hW] at H ⊢; clear hW
    have HC : Hid (CAt W w.heap.size c) := Lib.hid H.out.2
    have HB := Lib.hid H.out.1
    clear H
    go_wp2_with fail
    refine (awake_any _).mono ?_
    rintro e w1 ⟨rfl, hb⟩
    replace HC := Lib.hid (HC.out.step hb)
    replace HB := Lib.hid (HB.out.trans (hb.mono HB.out.size))
    clear hb
    go_wp2_with ((with_reducible apply wpList_load_cat (h := HC.out)); exact rfl; exact rfl; exact rfl)
    refine (CN.out _).mono ?_
    rintro e w2 ⟨rfl, hb⟩
    replace HC := Lib.hid (HC.out.step hb)
    replace HB := Lib.hid (HB.out.trans (hb.mono HB.out.size))
    clear hb CN
    go_upto_region 6 with (refine wpList_store_row rfl 26 _ _ rfl _ (⟨c.get 7, 0⟩ : Bt).cells rfl rfl 26 _ (heap_alloc_new _ _) (sizeBt _) rfl (Bt.one _) ?_; rw [World.setRow_alloc_new])
    have HS := Lib.hid (show CB w (w2.alloc (.cells (⟨c.get 7, 0⟩ : Bt).cells 26)) w.heap.size w2.heap.size c ⟨c.get 7, 0⟩ from ⟨HC.out.step (below_new _ _), BtAt.new _ _, HB.out.size, HB.out.trans ((below_new _ _).mono HB.out.size)⟩)
    obtain ⟨V, hV⟩ : ∃ V, w2.alloc (.cells (⟨c.get 7, 0⟩ : Bt).cells 26) = V := ⟨_, rfl⟩
    rw [hV] at HS ⊢; clear hV HC HB
    generalize w2.heap.size = q at *
    go_wp2_with (first | ((with_reducible apply wpList_load_cat (h := HS.out.cf)); exact rfl; exact rfl; exact rfl) | ((with_reducible apply wpList_load_bt (h := HS.out.bt)); exact rfl; exact rfl; exact rfl))
    refine (CK.out _).mono ?_
    rintro e w3 ⟨rfl, hb⟩
    replace HS := Lib.hid (HS.out.step hb)
    clear hb CK
    go_wp2_with (first | ((with_reducible apply wpList_load_cat (h := HS.out.cf)); exact rfl; exact rfl; exact rfl) | ((with_reducible apply wpList_load_bt (h := HS.out.bt)); exact rfl; exact rfl; exact rfl))
    refine (CU.out _).mono ?_
    rintro e w4 ⟨rfl, hb⟩
    replace HS := Lib.hid (HS.out.step hb)
    clear hb CU
    go_wp2_with fail
    go_ret
    exact ⟨rfl, HS.out.bel⟩
end Go.Proofs.Ytepfgheliddpmaa
