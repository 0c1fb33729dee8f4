/- The document's own book: Place, Cancel, Set. -/
import Derived.Test.YtodacdooooeofaaGreatRbD
namespace Go.Proofs.YtodacdooooeofaaGreat
open Go.RowKit Go.Lib
open Sh.Plain (KV get put del Rise)
set_option linter.unusedVariables false
set_option linter.unusedSimpArgs false

/-- what is known of each book -/
structure U.Ok (u : U) : Prop where
  ix : 0 ≤ u.ix ∧ u.ix ≤ 100000
  ll : u.live.length ≤ 1000
  ld : u.done.length ≤ 1000
  okc : u.is = true → okc u.c = true
theorem c3_of {c : Cfg} (h : okc c = true) : 1 ≤ c.get 3 := by
  have := (ok_at h (k := 3) (by decide)).1
  have e : lo 3 = 1 := by decide
  omega
theorem U.Ok.next {u : U} {sl sd : Sl} {w : World} (h : u.Ok) (hc : YtodacdooooeofaaGreat.okc u.c = true) (ha : UAt w u sl sd) (x : K) : Calls Tryz.prog 35 #[u.V sl sd, x.V] w (U3 w (nextU u x)) := nextU_any ha h.ix h.ll h.ld (c3_of hc)
def badA (n m : Int) : Bool := decide (n < 1) || (decide (top < n) || (decide (m < 0) || decide (top < m)))
def placeU (u : U) (x : K) (n m : Int) : U × Cg × Int :=
  if chkK u.c x ≠ 0 then (zu, zg, chkK u.c x) else if badA n m = true then (zu, zg, 1) else nextU u { x with id := u.ix + 1, own := n, born := m, st := 1 }
def cancelU (u : U) (i n : Int) : U × Cg × Int :=
  if u.is = false then (zu, zg, 3) else match findU u i with
    | none => (zu, zg, 6)
    | some x => if x.own ≠ n then (zu, zg, 8) else if x.st ≠ 1 ∧ x.st ≠ 2 then (zu, zg, 7) else nextU u { x with st := 5 }
def setU (u : U) (n m : Int) : U × Cg × Int :=
  if u.is = false then (zu, zg, 3) else if n < 1 ∨ u.c.get 1 < n ∨ (m ≠ 1 ∧ m ≠ 2) then (zu, zg, 1)
  else ({ u with m := u.m.set (n - 1).toNat m, ml := by rw [List.length_set]; exact u.ml, ix := u.ix + 1 }, ⟨u.ix + 1, zk, n, m⟩, 0)
theorem okc_of_chk {c : Cfg} {x : K} (h : chkK c x = 0) : okc c = true := by
  cases e : okc c
  · rw [chkK_no e] at h; exact absurd h (by decide)
  · rfl
section
variable {w W wx : World} {B g s q r : Nat} {u u' : U} {sl sd : Sl} {x x' : K}
/-- a number of the call is written -/
theorem TL.setk (h : TL w wx B g s q r u sl sd x) (hs : w.heap.size ≤ s) {i : Nat} {v : Value} (hk : KAt (wx.setCell ⟨s, i, none⟩ v) s x') : TL w (wx.setCell ⟨s, i, none⟩ v) B g s q r u sl sd x' := by
  obtain ⟨z, a, b, hz⟩ := h.ans
  exact ⟨h.bel.setCell hs _, At.far h.bk (At.ne h.bk h.k (by decide)) _, hk, ⟨z, a, b, At.far hz (At.ne hz h.k (by decide)) _⟩, At.far h.an2 (At.ne h.an2 h.k (by decide)) _, h.lo, h.hi, h.ne⟩
/-- the answer where it is an error -/
theorem TL.bad (h : TL w wx B g s q r u sl sd x) (n : Int) : ∃ z a b, UkAt wx q z a b ∧ CgAt (wx.setRow q (zu.cells s0 s0)) r zg ∧ UkAt ((wx.setRow q (zu.cells s0 s0)).setRow r zg.cells) q zu s0 s0 ∧ CgAt ((wx.setRow q (zu.cells s0 s0)).setRow r zg.cells) r zg ∧ U3 w (zu, zg, n) (.returned (.tuple #[zu.V s0 s0, zg.V, .int .i64 n])) ((wx.setRow q (zu.cells s0 s0)).setRow r zg.cells) := by
  obtain ⟨z, a, b, hz⟩ := h.ans
  have hf := fin3U (x := zg) hz h.an2 h.bel h.lo.2.1 h.lo.2.2 (UAt.zero _) n
  exact ⟨z, a, b, hz, At.farRow h.an2 (At.ne h.an2 hz (by decide)), hf.1, hf.2.1, hf.2.2⟩
/-- the answer, of a call's -/
theorem TL.good (h : TL w wx B g s q r u sl sd x) {b : U} {o p : Sl} (ha : UAt wx b o p) (c : Cg) (n : Int) : ∃ z a' b', UkAt wx q z a' b' ∧ CgAt (wx.setRow q (b.cells o p)) r zg ∧ UkAt ((wx.setRow q (b.cells o p)).setRow r c.cells) q b o p ∧ CgAt ((wx.setRow q (b.cells o p)).setRow r c.cells) r c ∧ U3 w (b, c, n) (.returned (.tuple #[b.V o p, c.V, .int .i64 n])) ((wx.setRow q (b.cells o p)).setRow r c.cells) := by
  obtain ⟨z, a, b', hz⟩ := h.ans
  have hf := fin3U (x := c) hz h.an2 h.bel h.lo.2.1 h.lo.2.2 ha n
  exact ⟨z, a, b', hz, At.farRow h.an2 (At.ne h.an2 hz (by decide)), hf.1, hf.2.1, hf.2.2⟩
end
set_option maxRecDepth 100000 in
set_option maxHeartbeats 4000000 in
theorem placeU_any {u : U} {sl sd : Sl} {x : K} {n m : Int} {w : World} (ha : UAt w u sl sd) (hok : u.Ok) : Calls Tryz.prog 10 #[u.V sl sd, x.V, .int .i64 n, .int .i64 m] w (U3 w (placeU u x n m)) := by
  have HT := Lib.hid (TL.new w u sl sd x _ rfl)
  have HA := Lib.hid (ha.step HT.out.bel)
  have HOK := Lib.hid hok
  have hw : IntKind.i64.wrap (u.ix + 1) = u.ix + 1 := IntWalk.i64_in _ (by have := hok.ix; omega)
  have hw2 : wrap64 (u.ix + 1) = u.ix + 1 := IntWalk.wrap64_in _ (by have := hok.ix; omega)
  clear hok
  have CK := Lib.hid (fun W => rcheck_any u.c x W)
  obtain ⟨z, hz⟩ : ∃ z, chkK u.c x = z := ⟨_, rfl⟩
  rw [hz] at CK
  by_cases h0 : z = 0
  · subst h0
    have HOC := Lib.hid (okc_of_chk hz)
    have HZ := Lib.hid hz; clear hz
    obtain ⟨t1, t2, t3, t4, d1, d2, d3, d4⟩ : ∃ t1 t2 t3 t4 : Bool, decide (n < 1) = t1 ∧ decide (1073741824 < n) = t2 ∧ decide (m < 0) = t3 ∧ decide (1073741824 < m) = t4 := ⟨_, _, _, _, rfl, rfl, rfl, rfl⟩
    have g2 : decide (n > 1073741824) = t2 := d2
    have g4 : decide (m > 1073741824) = t4 := d4
    have HBA : Hid (badA n m = (t1 || (t2 || (t3 || t4)))) := Lib.hid (by unfold badA top; rw [d1, d2, d3, d4])
    cases t1
    · cases t2
      · cases t3
        · cases t4
          · clear HA
            have HRES : Hid (placeU u x n m = nextU u { x with id := u.ix + 1, own := n, born := m, st := 1 }) := Lib.hid (by unfold placeU; rw [if_neg (by rw [HZ.out]; decide), if_neg (by rw [HBA.out]; decide)])
            have HB0 := Lib.hid ha
            go_enter Tryz.func10, Tryz.ntmps10
            go_upto_region 1 with fail
            obtain ⟨W, hW⟩ : ∃ W, (((w.alloc (.cells (u.cells sl sd) 36)).alloc (.cells x.cells 40)).alloc (.cells Z26 36)).alloc (.cells Z11 42) = W := ⟨_, rfl⟩
            rw [hW] at HT ⊢; clear hW
            have HLS : Hid (w.heap.size ≤ w.heap.size + 1) := Lib.hid (by omega)
            generalize w.heap.size + 1 + 1 + 1 = r at HT ⊢
            generalize w.heap.size + 1 + 1 = q at HT ⊢
            generalize w.heap.size + 1 = s at HT HLS ⊢
            obtain ⟨g, hg⟩ : ∃ g, w.heap.size = g := ⟨_, rfl⟩
            rw [hg] at HT ⊢; clear hg
            have HC := Lib.hid (UkAt.kc HT.out.bk); have HK := Lib.hid HT.out.k
            go_upto_region 2 with (first | ((with_reducible apply wpList_load_cpart (c := u.c) (h := HC.out)); exact rfl; exact rfl; exact rfl) | ((with_reducible apply wpList_load_kat (h := HK.out)); exact rfl; exact rfl; exact rfl) | (go_at_call 34; (with_reducible refine (CK.out _).mono ?_); rintro e w1 ⟨rfl, hb1⟩))
            have HT1 := Lib.hid (HT.out.step hb1)
            clear HT HC HK CK hb1
            have k19 := UkAt.k19 HT1.out.bk
            have k0 := KAt.get0 HT1.out.k; have f0 := At.frozen HT1.out.k 0
            go_upto_region 7 with fail
            have HT2 := Lib.hid (HT1.out.setk HLS.out (KAt.set0 HT1.out.k (u.ix + 1)))
            obtain ⟨y1, hy⟩ : ∃ y, w1.setCell ⟨s, 0, none⟩ (.int .i64 (u.ix + 1)) = y := ⟨_, rfl⟩
            rw [hy] at HT2 ⊢; clear hy k0 f0 HT1
            clear k19 d1 d2 d3 d4 g2 g4
            have k6 := KAt.get6 HT2.out.k; have f6 := At.frozen HT2.out.k 6
            go_upto_region 8 with fail
            have HT3 := Lib.hid (HT2.out.setk HLS.out (KAt.set6 HT2.out.k n))
            obtain ⟨y2, hy⟩ : ∃ y, y1.setCell ⟨s, 6, none⟩ (.int .i64 n) = y := ⟨_, rfl⟩
            rw [hy] at HT3 ⊢; clear hy k6 f6 HT2
            have k7 := KAt.get7 HT3.out.k; have f7 := At.frozen HT3.out.k 7
            go_upto_region 9 with fail
            have HT4 := Lib.hid (HT3.out.setk HLS.out (KAt.set7 HT3.out.k m))
            obtain ⟨y3, hy⟩ : ∃ y, y2.setCell ⟨s, 7, none⟩ (.int .i64 m) = y := ⟨_, rfl⟩
            rw [hy] at HT4 ⊢; clear hy k7 f7 HT3
            have k5 := KAt.get5 HT4.out.k; have f5 := At.frozen HT4.out.k 5
            go_upto_region 10 with fail
            have HT5 := Lib.hid (HT4.out.setk HLS.out (KAt.set5 HT4.out.k 1))
            obtain ⟨y4, hy⟩ : ∃ y, y3.setCell ⟨s, 5, none⟩ (.int .i64 1) = y := ⟨_, rfl⟩
            rw [hy] at HT5 ⊢; clear hy k5 f5 HT4
            have HA5 := Lib.hid (HB0.out.step HT5.out.bel)
            obtain ⟨k, hk⟩ : ∃ k : K, ({ x with id := u.ix + 1, own := n, born := m, st := 1 } : K) = k := ⟨_, rfl⟩
            rw [hk] at HRES
            have HT6 : Hid (TL w y4 W.heap.size g s q r u sl sd k) := Lib.hid (by rw [← hk]; exact HT5.out)
            clear hk HT5
            have CN := Lib.hid (HOK.out.next HOC.out HA5.out k)
            generalize nextU u k = res at CN HRES
            obtain ⟨rb, rc, rn⟩ := res
            have HU := Lib.hid HT6.out.bk; have HK := Lib.hid HT6.out.k
            go_wp2_with (first | ((with_reducible apply wpList_load_uk (h := HU.out)); exact rfl; exact rfl; exact rfl) | ((with_reducible apply wpList_load_kat (h := HK.out)); exact rfl; exact rfl; exact rfl))
            with_reducible refine CN.out.mono ?_
            rintro e w5 ⟨o5, p5, rfl, ha5, hb5⟩
            have HT7 := Lib.hid (HT6.out.step hb5); have HA7 := Lib.hid ha5; clear HT6 HU HK CN hb5 ha5 HA5
            obtain ⟨z9, a9, b9, h1, h2, h3, h4, h5⟩ := HT7.out.good HA7.out rc rn
            have HQ := Lib.hid h1; have HR9 := Lib.hid h2; have HF1 := Lib.hid h3; have HF2 := Lib.hid h4; have HF3 := Lib.hid h5; clear h1 h2 h3 h4 h5
            go_wp2_with (first | ((with_reducible apply wpList_build_zu); exact rfl; exact rfl) | ((with_reducible apply wpList_build_zg); exact rfl; exact rfl) | ((with_reducible apply wpList_store_uk (b := rb) (s := o5) (t := p5) (hq := HQ.out)); exact rfl; exact rfl; exact rfl; exact rfl) | ((with_reducible apply wpList_store_cg (c := rc) (hq := HR9.out)); exact rfl; exact rfl; exact rfl; exact rfl))
            exact bodyPost_ret (results_u3 Tryz.results10 rfl rfl rfl HF1.out HF2.out) rfl (by rw [HRES.out]; exact HF3.out)
          · clear ha
            have HRES : Hid (placeU u x n m = (zu, zg, 1)) := Lib.hid (by unfold placeU; rw [if_neg (by rw [HZ.out]; decide), if_pos (by rw [HBA.out]; rfl)])
            go_enter Tryz.func10, Tryz.ntmps10
            go_upto_region 1 with fail
            obtain ⟨W, hW⟩ : ∃ W, (((w.alloc (.cells (u.cells sl sd) 36)).alloc (.cells x.cells 40)).alloc (.cells Z26 36)).alloc (.cells Z11 42) = W := ⟨_, rfl⟩
            rw [hW] at HT HA ⊢; clear hW
            have HLS : Hid (w.heap.size ≤ w.heap.size + 1) := Lib.hid (by omega)
            generalize w.heap.size + 1 + 1 + 1 = r at HT ⊢
            generalize w.heap.size + 1 + 1 = q at HT ⊢
            generalize w.heap.size + 1 = s at HT HLS ⊢
            obtain ⟨g, hg⟩ : ∃ g, w.heap.size = g := ⟨_, rfl⟩
            rw [hg] at HT ⊢; clear hg
            have HC := Lib.hid (UkAt.kc HT.out.bk); have HK := Lib.hid HT.out.k
            go_upto_region 2 with (first | ((with_reducible apply wpList_load_cpart (c := u.c) (h := HC.out)); exact rfl; exact rfl; exact rfl) | ((with_reducible apply wpList_load_kat (h := HK.out)); exact rfl; exact rfl; exact rfl) | (go_at_call 34; (with_reducible refine (CK.out _).mono ?_); rintro e w1 ⟨rfl, hb1⟩))
            have HT1 := Lib.hid (HT.out.step hb1); have HA1 := Lib.hid (HA.out.step hb1)
            clear HT HA HC HK CK hb1
            obtain ⟨z9, a9, b9, h1, h2, h3, h4, h5⟩ := HT1.out.bad 1
            have HQ := Lib.hid h1; have HR9 := Lib.hid h2; have HF1 := Lib.hid h3; have HF2 := Lib.hid h4; have HF3 := Lib.hid h5; clear h1 h2 h3 h4 h5
            go_wp2_with (first | ((with_reducible apply wpList_build_zu); exact rfl; exact rfl) | ((with_reducible apply wpList_build_zg); exact rfl; exact rfl) | ((with_reducible apply wpList_store_uk (b := zu) (s := s0) (t := s0) (hq := HQ.out)); exact rfl; exact rfl; exact rfl; exact rfl) | ((with_reducible apply wpList_store_cg (c := zg) (hq := HR9.out)); exact rfl; exact rfl; exact rfl; exact rfl))
            exact bodyPost_ret (results_u3 Tryz.results10 rfl rfl rfl HF1.out HF2.out) rfl (by rw [HRES.out]; exact HF3.out)
        · clear ha
          have HRES : Hid (placeU u x n m = (zu, zg, 1)) := Lib.hid (by unfold placeU; rw [if_neg (by rw [HZ.out]; decide), if_pos (by rw [HBA.out]; rfl)])
          go_enter Tryz.func10, Tryz.ntmps10
          go_upto_region 1 with fail
          obtain ⟨W, hW⟩ : ∃ W, (((w.alloc (.cells (u.cells sl sd) 36)).alloc (.cells x.cells 40)).alloc (.cells Z26 36)).alloc (.cells Z11 42) = W := ⟨_, rfl⟩
          rw [hW] at HT HA ⊢; clear hW
          have HLS : Hid (w.heap.size ≤ w.heap.size + 1) := Lib.hid (by omega)
          generalize w.heap.size + 1 + 1 + 1 = r at HT ⊢
          generalize w.heap.size + 1 + 1 = q at HT ⊢
          generalize w.heap.size + 1 = s at HT HLS ⊢
          obtain ⟨g, hg⟩ : ∃ g, w.heap.size = g := ⟨_, rfl⟩
          rw [hg] at HT ⊢; clear hg
          have HC := Lib.hid (UkAt.kc HT.out.bk); have HK := Lib.hid HT.out.k
          go_upto_region 2 with (first | ((with_reducible apply wpList_load_cpart (c := u.c) (h := HC.out)); exact rfl; exact rfl; exact rfl) | ((with_reducible apply wpList_load_kat (h := HK.out)); exact rfl; exact rfl; exact rfl) | (go_at_call 34; (with_reducible refine (CK.out _).mono ?_); rintro e w1 ⟨rfl, hb1⟩))
          have HT1 := Lib.hid (HT.out.step hb1); have HA1 := Lib.hid (HA.out.step hb1)
          clear HT HA HC HK CK hb1
          obtain ⟨z9, a9, b9, h1, h2, h3, h4, h5⟩ := HT1.out.bad 1
          have HQ := Lib.hid h1; have HR9 := Lib.hid h2; have HF1 := Lib.hid h3; have HF2 := Lib.hid h4; have HF3 := Lib.hid h5; clear h1 h2 h3 h4 h5
          go_wp2_with (first | ((with_reducible apply wpList_build_zu); exact rfl; exact rfl) | ((with_reducible apply wpList_build_zg); exact rfl; exact rfl) | ((with_reducible apply wpList_store_uk (b := zu) (s := s0) (t := s0) (hq := HQ.out)); exact rfl; exact rfl; exact rfl; exact rfl) | ((with_reducible apply wpList_store_cg (c := zg) (hq := HR9.out)); exact rfl; exact rfl; exact rfl; exact rfl))
          exact bodyPost_ret (results_u3 Tryz.results10 rfl rfl rfl HF1.out HF2.out) rfl (by rw [HRES.out]; exact HF3.out)
      · clear ha
        have HRES : Hid (placeU u x n m = (zu, zg, 1)) := Lib.hid (by unfold placeU; rw [if_neg (by rw [HZ.out]; decide), if_pos (by rw [HBA.out]; rfl)])
        go_enter Tryz.func10, Tryz.ntmps10
        go_upto_region 1 with fail
        obtain ⟨W, hW⟩ : ∃ W, (((w.alloc (.cells (u.cells sl sd) 36)).alloc (.cells x.cells 40)).alloc (.cells Z26 36)).alloc (.cells Z11 42) = W := ⟨_, rfl⟩
        rw [hW] at HT HA ⊢; clear hW
        have HLS : Hid (w.heap.size ≤ w.heap.size + 1) := Lib.hid (by omega)
        generalize w.heap.size + 1 + 1 + 1 = r at HT ⊢
        generalize w.heap.size + 1 + 1 = q at HT ⊢
        generalize w.heap.size + 1 = s at HT HLS ⊢
        obtain ⟨g, hg⟩ : ∃ g, w.heap.size = g := ⟨_, rfl⟩
        rw [hg] at HT ⊢; clear hg
        have HC := Lib.hid (UkAt.kc HT.out.bk); have HK := Lib.hid HT.out.k
        go_upto_region 2 with (first | ((with_reducible apply wpList_load_cpart (c := u.c) (h := HC.out)); exact rfl; exact rfl; exact rfl) | ((with_reducible apply wpList_load_kat (h := HK.out)); exact rfl; exact rfl; exact rfl) | (go_at_call 34; (with_reducible refine (CK.out _).mono ?_); rintro e w1 ⟨rfl, hb1⟩))
        have HT1 := Lib.hid (HT.out.step hb1); have HA1 := Lib.hid (HA.out.step hb1)
        clear HT HA HC HK CK hb1
        obtain ⟨z9, a9, b9, h1, h2, h3, h4, h5⟩ := HT1.out.bad 1
        have HQ := Lib.hid h1; have HR9 := Lib.hid h2; have HF1 := Lib.hid h3; have HF2 := Lib.hid h4; have HF3 := Lib.hid h5; clear h1 h2 h3 h4 h5
        go_wp2_with (first | ((with_reducible apply wpList_build_zu); exact rfl; exact rfl) | ((with_reducible apply wpList_build_zg); exact rfl; exact rfl) | ((with_reducible apply wpList_store_uk (b := zu) (s := s0) (t := s0) (hq := HQ.out)); exact rfl; exact rfl; exact rfl; exact rfl) | ((with_reducible apply wpList_store_cg (c := zg) (hq := HR9.out)); exact rfl; exact rfl; exact rfl; exact rfl))
        exact bodyPost_ret (results_u3 Tryz.results10 rfl rfl rfl HF1.out HF2.out) rfl (by rw [HRES.out]; exact HF3.out)
    · clear ha
      have HRES : Hid (placeU u x n m = (zu, zg, 1)) := Lib.hid (by unfold placeU; rw [if_neg (by rw [HZ.out]; decide), if_pos (by rw [HBA.out]; rfl)])
      go_enter Tryz.func10, Tryz.ntmps10
      go_upto_region 1 with fail
      obtain ⟨W, hW⟩ : ∃ W, (((w.alloc (.cells (u.cells sl sd) 36)).alloc (.cells x.cells 40)).alloc (.cells Z26 36)).alloc (.cells Z11 42) = W := ⟨_, rfl⟩
      rw [hW] at HT HA ⊢; clear hW
      have HLS : Hid (w.heap.size ≤ w.heap.size + 1) := Lib.hid (by omega)
      generalize w.heap.size + 1 + 1 + 1 = r at HT ⊢
      generalize w.heap.size + 1 + 1 = q at HT ⊢
      generalize w.heap.size + 1 = s at HT HLS ⊢
      obtain ⟨g, hg⟩ : ∃ g, w.heap.size = g := ⟨_, rfl⟩
      rw [hg] at HT ⊢; clear hg
      have HC := Lib.hid (UkAt.kc HT.out.bk); have HK := Lib.hid HT.out.k
      go_upto_region 2 with (first | ((with_reducible apply wpList_load_cpart (c := u.c) (h := HC.out)); exact rfl; exact rfl; exact rfl) | ((with_reducible apply wpList_load_kat (h := HK.out)); exact rfl; exact rfl; exact rfl) | (go_at_call 34; (with_reducible refine (CK.out _).mono ?_); rintro e w1 ⟨rfl, hb1⟩))
      have HT1 := Lib.hid (HT.out.step hb1); have HA1 := Lib.hid (HA.out.step hb1)
      clear HT HA HC HK CK hb1
      obtain ⟨z9, a9, b9, h1, h2, h3, h4, h5⟩ := HT1.out.bad 1
      have HQ := Lib.hid h1; have HR9 := Lib.hid h2; have HF1 := Lib.hid h3; have HF2 := Lib.hid h4; have HF3 := Lib.hid h5; clear h1 h2 h3 h4 h5
      go_wp2_with (first | ((with_reducible apply wpList_build_zu); exact rfl; exact rfl) | ((with_reducible apply wpList_build_zg); exact rfl; exact rfl) | ((with_reducible apply wpList_store_uk (b := zu) (s := s0) (t := s0) (hq := HQ.out)); exact rfl; exact rfl; exact rfl; exact rfl) | ((with_reducible apply wpList_store_cg (c := zg) (hq := HR9.out)); exact rfl; exact rfl; exact rfl; exact rfl))
      exact bodyPost_ret (results_u3 Tryz.results10 rfl rfl rfl HF1.out HF2.out) rfl (by rw [HRES.out]; exact HF3.out)
  · have HRES : Hid (placeU u x n m = (zu, zg, z)) := Lib.hid (by unfold placeU; rw [if_pos (by rw [hz]; exact h0), hz])
    clear ha hz
    have d_h0 : decide (z = 0) = false := (by simpa using h0); have n_h0 : (z != 0) = true := (by simpa using h0); have q_h0 : (z == 0) = false := (by simpa using h0)
    clear h0
    go_enter Tryz.func10, Tryz.ntmps10
    go_upto_region 1 with fail
    obtain ⟨W, hW⟩ : ∃ W, (((w.alloc (.cells (u.cells sl sd) 36)).alloc (.cells x.cells 40)).alloc (.cells Z26 36)).alloc (.cells Z11 42) = W := ⟨_, rfl⟩
    rw [hW] at HT HA ⊢; clear hW
    have HLS : Hid (w.heap.size ≤ w.heap.size + 1) := Lib.hid (by omega)
    generalize w.heap.size + 1 + 1 + 1 = r at HT ⊢
    generalize w.heap.size + 1 + 1 = q at HT ⊢
    generalize w.heap.size + 1 = s at HT HLS ⊢
    obtain ⟨g, hg⟩ : ∃ g, w.heap.size = g := ⟨_, rfl⟩
    rw [hg] at HT ⊢; clear hg
    have HC := Lib.hid (UkAt.kc HT.out.bk); have HK := Lib.hid HT.out.k
    go_upto_region 2 with (first | ((with_reducible apply wpList_load_cpart (c := u.c) (h := HC.out)); exact rfl; exact rfl; exact rfl) | ((with_reducible apply wpList_load_kat (h := HK.out)); exact rfl; exact rfl; exact rfl) | (go_at_call 34; (with_reducible refine (CK.out _).mono ?_); rintro e w1 ⟨rfl, hb1⟩))
    have HT1 := Lib.hid (HT.out.step hb1); have HA1 := Lib.hid (HA.out.step hb1)
    clear HT HA HC HK CK hb1
    obtain ⟨z9, a9, b9, h1, h2, h3, h4, h5⟩ := HT1.out.bad z
    have HQ := Lib.hid h1; have HR9 := Lib.hid h2; have HF1 := Lib.hid h3; have HF2 := Lib.hid h4; have HF3 := Lib.hid h5; clear h1 h2 h3 h4 h5
    go_wp2_with (first | ((with_reducible apply wpList_build_zu); exact rfl; exact rfl) | ((with_reducible apply wpList_build_zg); exact rfl; exact rfl) | ((with_reducible apply wpList_store_uk (b := zu) (s := s0) (t := s0) (hq := HQ.out)); exact rfl; exact rfl; exact rfl; exact rfl) | ((with_reducible apply wpList_store_cg (c := zg) (hq := HR9.out)); exact rfl; exact rfl; exact rfl; exact rfl))
    exact bodyPost_ret (results_u3 Tryz.results10 rfl rfl rfl HF1.out HF2.out) rfl (by rw [HRES.out]; exact HF3.out)
structure YU (w wx : World) (g q r : Nat) (u : U) (sl sd : Sl) : Prop where
  bel : Below w.heap.size w wx
  bk : UkAt wx g u sl sd
  ans : ∃ z a b, UkAt wx q z a b
  an2 : CgAt wx r zg
  lo : w.heap.size ≤ g ∧ w.heap.size ≤ q ∧ w.heap.size ≤ r
  ne : g ≠ q
section
variable {w W wx : World} {g q r : Nat} {u u' : U} {sl sd sl' sd' : Sl}
theorem YU.step (h : YU w W g q r u sl sd) (hb : Below W.heap.size W wx) : YU w wx g q r u sl sd := by
  obtain ⟨z, a, b, hz⟩ := h.ans
  exact ⟨h.bel.trans (hb.mono h.bel.size), At.step h.bk hb, ⟨z, a, b, At.step hz hb⟩, At.step h.an2 hb, h.lo, h.ne⟩
theorem YU.one (h : YU w wx g q r u sl sd) {i : Nat} {v : Value} (hb : UkAt (wx.setCell ⟨g, i, none⟩ v) g u' sl' sd') : YU w (wx.setCell ⟨g, i, none⟩ v) g q r u' sl' sd' := by
  obtain ⟨z, a, b, hz⟩ := h.ans
  exact ⟨h.bel.setCell h.lo.1 _, hb, ⟨z, a, b, At.far hz (Ne.symm h.ne) _⟩, At.far h.an2 (At.ne h.an2 h.bk (by decide)) _, h.lo, h.ne⟩
theorem YU.put (h : YU w wx g q r u sl sd) : YU w (wx.setRow q (u.cells sl sd)) g q r u sl sd ∧ UkAt (wx.setRow q (u.cells sl sd)) q u sl sd := by
  obtain ⟨z, a, b, hz⟩ := h.ans
  have hq : UkAt (wx.setRow q (u.cells sl sd)) q u sl sd := At.setRow hz _
  exact ⟨⟨setRow_below h.bel h.lo.2.1 _, At.farRow h.bk h.ne, ⟨u, sl, sd, hq⟩, At.farRow h.an2 (At.ne h.an2 hz (by decide)), h.lo, h.ne⟩, hq⟩
theorem YU.drew (h : YU w wx g q r u sl sd) : YU w wx.drew g q r u sl sd := ⟨⟨h.bel.os, h.bel.tape, h.bel.output, h.bel.size, h.bel.block⟩, h.bk, h.ans, h.an2, h.lo, h.ne⟩
theorem YU.good (h : YU w wx g q r u sl sd) {b : U} {o p : Sl} (ha : UAt wx b o p) (c : Cg) (n : Int) : ∃ z a' b', UkAt wx q z a' b' ∧ CgAt (wx.setRow q (b.cells o p)) r zg ∧ UkAt ((wx.setRow q (b.cells o p)).setRow r c.cells) q b o p ∧ CgAt ((wx.setRow q (b.cells o p)).setRow r c.cells) r c ∧ U3 w (b, c, n) (.returned (.tuple #[b.V o p, c.V, .int .i64 n])) ((wx.setRow q (b.cells o p)).setRow r c.cells) := by
  obtain ⟨z, a, b', hz⟩ := h.ans
  have hf := fin3U (x := c) hz h.an2 h.bel h.lo.2.1 h.lo.2.2 ha n
  exact ⟨z, a, b', hz, At.farRow h.an2 (At.ne h.an2 hz (by decide)), hf.1, hf.2.1, hf.2.2⟩
theorem YU.bad (h : YU w wx g q r u sl sd) (n : Int) : ∃ z a b, UkAt wx q z a b ∧ CgAt (wx.setRow q (zu.cells s0 s0)) r zg ∧ UkAt ((wx.setRow q (zu.cells s0 s0)).setRow r zg.cells) q zu s0 s0 ∧ CgAt ((wx.setRow q (zu.cells s0 s0)).setRow r zg.cells) r zg ∧ U3 w (zu, zg, n) (.returned (.tuple #[zu.V s0 s0, zg.V, .int .i64 n])) ((wx.setRow q (zu.cells s0 s0)).setRow r zg.cells) := h.good (UAt.zero _) zg n
/-- the answer, where the book is stored already -/
theorem YU.fin (h : YU w wx g q r u sl sd) {z : U} {a b : Sl} (hq : UkAt wx q z a b) (c : Cg) (n : Int) (hrr : UAt wx z a b) :
    UkAt (wx.setRow r c.cells) q z a b ∧ CgAt (wx.setRow r c.cells) r c ∧ U3 w (z, c, n) (.returned (.tuple #[z.V a b, c.V, .int .i64 n])) (wx.setRow r c.cells) :=
  ⟨At.farRow hq (At.ne hq h.an2 (by decide)), At.setRow h.an2 _, a, b, rfl, hrr.farRow h.an2 (by decide), setRow_below h.bel h.lo.2.2 _⟩
end
/-- what stands in Cancel's and Set's blocks -/
theorem TC.new (w : World) (u : U) (sl sd : Sl) : ∀ W, W = ((w.alloc (.cells (u.cells sl sd) 36)).alloc (.cells Z26 36)).alloc (.cells Z11 42) → YU w W w.heap.size (w.heap.size + 1) (w.heap.size + 1 + 1) u sl sd := by
  rintro W rfl
  obtain ⟨h1, h2, h3, h4⟩ := new3 w (u.cells sl sd) Z26 Z11 36 36 42
  exact ⟨h1, h2, ⟨zu, s0, s0, h3⟩, h4, ⟨by omega, by omega, by omega⟩, by omega⟩
set_option maxRecDepth 100000 in
set_option maxHeartbeats 4000000 in
theorem cancelU_any {u : U} {sl sd : Sl} {i n : Int} {w : World} (ha : UAt w u sl sd) (hok : u.Ok) : Calls Tryz.prog 12 #[u.V sl sd, .int .i64 i, .int .i64 n] w (U3 w (cancelU u i n)) := by
  have HT := Lib.hid (TC.new w u sl sd _ rfl)
  have HA := Lib.hid (ha.step HT.out.bel)
  have HA0 := Lib.hid ha
  have HOK := Lib.hid hok; clear hok ha
  cases hi : u.is
  · have HIS := Lib.hid hi; clear hi
    have HRES : Hid (cancelU u i n = (zu, zg, 3)) := Lib.hid (by unfold cancelU; rw [if_pos HIS.out])
    go_enter Tryz.func12, Tryz.ntmps12
    go_upto_region 1 with fail
    obtain ⟨W, hW⟩ : ∃ W, ((w.alloc (.cells (u.cells sl sd) 36)).alloc (.cells Z26 36)).alloc (.cells Z11 42) = W := ⟨_, rfl⟩
    rw [hW] at HT HA ⊢; clear hW
    generalize w.heap.size + 1 + 1 = r at HT ⊢
    generalize w.heap.size + 1 = q at HT ⊢
    obtain ⟨g, hg⟩ : ∃ g, w.heap.size = g := ⟨_, rfl⟩
    rw [hg] at HT ⊢; clear hg
    have k18 := UkAt.k18 HT.out.bk
    rw [HIS.out] at k18
    obtain ⟨z9, a9, b9, h1, h2, h3, h4, h5⟩ := HT.out.bad 3
    have HQ := Lib.hid h1; have HR9 := Lib.hid h2; have HF1 := Lib.hid h3; have HF2 := Lib.hid h4; have HF3 := Lib.hid h5; clear h1 h2 h3 h4 h5
    go_wp2_with (first | ((with_reducible apply wpList_build_zu); exact rfl; exact rfl) | ((with_reducible apply wpList_build_zg); exact rfl; exact rfl) | ((with_reducible apply wpList_store_uk (b := zu) (s := s0) (t := s0) (hq := HQ.out)); exact rfl; exact rfl; exact rfl; exact rfl) | ((with_reducible apply wpList_store_cg (c := zg) (hq := HR9.out)); exact rfl; exact rfl; exact rfl; exact rfl))
    exact bodyPost_ret (results_u3 Tryz.results12 rfl rfl rfl HF1.out HF2.out) rfl (by rw [HRES.out]; exact HF3.out)
  · have HIS := Lib.hid hi; have HOC := Lib.hid (HOK.out.okc hi); clear hi
    have CF0 := findU_any i HA.out (by have := HOK.out.ll; omega) (by have := HOK.out.ld; omega)
    cases hf : findU u i with
    | none =>
      rw [hf] at CF0
      have CF1 := CF0; clear CF0
      have HFI := Lib.hid hf; clear hf
      have HRES : Hid (cancelU u i n = (zu, zg, 6)) := Lib.hid (by unfold cancelU; rw [if_neg (by rw [HIS.out]; decide), HFI.out])
      clear CF1
      go_enter Tryz.func12, Tryz.ntmps12
      go_upto_region 1 with fail
      obtain ⟨W, hW⟩ : ∃ W, ((w.alloc (.cells (u.cells sl sd) 36)).alloc (.cells Z26 36)).alloc (.cells Z11 42) = W := ⟨_, rfl⟩
      rw [hW] at HT HA ⊢; clear hW
      generalize w.heap.size + 1 + 1 = r at HT ⊢
      generalize w.heap.size + 1 = q at HT ⊢
      obtain ⟨g, hg⟩ : ∃ g, w.heap.size = g := ⟨_, rfl⟩
      rw [hg] at HT ⊢; clear hg
      have k18 := UkAt.k18 HT.out.bk
      rw [HIS.out] at k18
      have CF0 := findU_any i HA.out (by have := HOK.out.ll; omega) (by have := HOK.out.ld; omega)
      rw [HFI.out] at CF0
      have CF : Hid (Calls Tryz.prog 18 #[u.V sl sd, .int .i64 i] W (fun e w9 => e = .returned (.tuple #[zk.V, .bool false]) ∧ Below W.heap.size W w9)) := Lib.hid CF0
      clear CF0
      have HU := Lib.hid HT.out.bk
      go_upto_region 4 with (first | ((with_reducible apply wpList_load_uk (h := HU.out)); exact rfl; exact rfl; exact rfl) | (go_at_call 18; (with_reducible refine CF.out.mono ?_); rintro e w1 ⟨rfl, hb1⟩) | ((with_reducible apply wpList_store_knew (c := zk)); exact rfl; exact rfl; exact rfl; exact rfl))
      have hb2 := hb1.trans ((below_new w1 (.cells (zk : K).cells 40)).mono hb1.size)
      have HT1 := Lib.hid (HT.out.step hb2); have HA1 := Lib.hid (HA.out.step hb2); have HK1 := Lib.hid (KAt.new w1 zk)
      have HS1 : Hid (w.heap.size ≤ w1.heap.size) := Lib.hid (Nat.le_trans HT.out.bel.size hb1.size)
      obtain ⟨w2, hw2⟩ : ∃ y, w1.alloc (.cells (zk : K).cells 40) = y := ⟨_, rfl⟩
      rw [hw2] at HT1 HA1 HK1 ⊢
      generalize w1.heap.size = s at HK1 HS1 ⊢
      clear hw2 hb1 hb2 HT HU CF k18
      obtain ⟨z9, a9, b9, h1, h2, h3, h4, h5⟩ := HT1.out.bad 6
      have HQ := Lib.hid h1; have HR9 := Lib.hid h2; have HF1 := Lib.hid h3; have HF2 := Lib.hid h4; have HF3 := Lib.hid h5; clear h1 h2 h3 h4 h5
      go_wp2_with (first | ((with_reducible apply wpList_build_zu); exact rfl; exact rfl) | ((with_reducible apply wpList_build_zg); exact rfl; exact rfl) | ((with_reducible apply wpList_store_uk (b := zu) (s := s0) (t := s0) (hq := HQ.out)); exact rfl; exact rfl; exact rfl; exact rfl) | ((with_reducible apply wpList_store_cg (c := zg) (hq := HR9.out)); exact rfl; exact rfl; exact rfl; exact rfl))
      exact bodyPost_ret (results_u3 Tryz.results12 rfl rfl rfl HF1.out HF2.out) rfl (by rw [HRES.out]; exact HF3.out)
    | some x =>
      have HFI := Lib.hid hf; clear hf CF0
      have HRES0 : Hid (cancelU u i n = if x.own ≠ n then (zu, zg, 8) else if x.st ≠ 1 ∧ x.st ≠ 2 then (zu, zg, 7) else nextU u { x with st := 5 }) := Lib.hid (by unfold cancelU; rw [if_neg (by rw [HIS.out]; decide), HFI.out])
      by_cases ho : x.own = n
      · have d_o : decide (x.own = n) = true := (by simpa using ho); have n_o : (x.own != n) = false := (by simpa using ho); have q_o : (x.own == n) = true := (by simpa using ho)
        have HO := Lib.hid ho; clear ho
        by_cases h1 : x.st = 1
        · have d_h1 : decide (x.st = 1) = true := (by simpa using h1); have n_h1 : (x.st != 1) = false := (by simpa using h1); have q_h1 : (x.st == 1) = true := (by simpa using h1)
          have HS := Lib.hid h1; clear h1
          have HRES : Hid (cancelU u i n = nextU u { x with st := 5 }) := Lib.hid (by rw [HRES0.out, if_neg (fun h => h HO.out), if_neg (by rintro ⟨a, b⟩; first | exact a HS.out | exact b HS.out)])
          clear HRES0
          go_enter Tryz.func12, Tryz.ntmps12
          go_upto_region 1 with fail
          obtain ⟨W, hW⟩ : ∃ W, ((w.alloc (.cells (u.cells sl sd) 36)).alloc (.cells Z26 36)).alloc (.cells Z11 42) = W := ⟨_, rfl⟩
          rw [hW] at HT HA ⊢; clear hW
          generalize w.heap.size + 1 + 1 = r at HT ⊢
          generalize w.heap.size + 1 = q at HT ⊢
          obtain ⟨g, hg⟩ : ∃ g, w.heap.size = g := ⟨_, rfl⟩
          rw [hg] at HT ⊢; clear hg
          have k18 := UkAt.k18 HT.out.bk
          rw [HIS.out] at k18
          have CF0 := findU_any i HA.out (by have := HOK.out.ll; omega) (by have := HOK.out.ld; omega)
          rw [HFI.out] at CF0
          have CF : Hid (Calls Tryz.prog 18 #[u.V sl sd, .int .i64 i] W (fun e w9 => e = .returned (.tuple #[x.V, .bool true]) ∧ Below W.heap.size W w9)) := Lib.hid CF0
          clear CF0
          have HU := Lib.hid HT.out.bk
          go_upto_region 4 with (first | ((with_reducible apply wpList_load_uk (h := HU.out)); exact rfl; exact rfl; exact rfl) | (go_at_call 18; (with_reducible refine CF.out.mono ?_); rintro e w1 ⟨rfl, hb1⟩) | ((with_reducible apply wpList_store_knew (c := x)); exact rfl; exact rfl; exact rfl; exact rfl))
          have hb2 := hb1.trans ((below_new w1 (.cells (x : K).cells 40)).mono hb1.size)
          have HT1 := Lib.hid (HT.out.step hb2); have HA1 := Lib.hid (HA.out.step hb2); have HK1 := Lib.hid (KAt.new w1 x)
          have HS1 : Hid (w.heap.size ≤ w1.heap.size) := Lib.hid (Nat.le_trans HT.out.bel.size hb1.size)
          obtain ⟨w2, hw2⟩ : ∃ y, w1.alloc (.cells (x : K).cells 40) = y := ⟨_, rfl⟩
          rw [hw2] at HT1 HA1 HK1 ⊢
          generalize w1.heap.size = s at HK1 HS1 ⊢
          clear hw2 hb1 hb2 HT HU CF k18
          have k6 := KAt.get6 HK1.out; have k5 := KAt.get5 HK1.out
          have k5 := KAt.get5 HK1.out; have f5 := At.frozen HK1.out 5
          go_upto_region 11 with fail
          have HB3 : Hid (Below w.heap.size w (w2.setCell ⟨s, 5, none⟩ (.int .i64 5))) := Lib.hid (HT1.out.bel.setCell HS1.out _)
          have HK3 := Lib.hid (KAt.set5 HK1.out 5)
          have HT3 : Hid (YU w (w2.setCell ⟨s, 5, none⟩ (.int .i64 5)) g q r u sl sd) := Lib.hid (by
            obtain ⟨z, a, b, hz⟩ := HT1.out.ans
            exact ⟨HB3.out, At.far HT1.out.bk (At.ne HT1.out.bk HK1.out (by decide)) _, ⟨z, a, b, At.far hz (At.ne hz HK1.out (by decide)) _⟩, At.far HT1.out.an2 (At.ne HT1.out.an2 HK1.out (by decide)) _, HT1.out.lo, HT1.out.ne⟩)
          have HA3 := Lib.hid (HA0.out.step HB3.out)
          obtain ⟨w3, hw3⟩ : ∃ y, w2.setCell ⟨s, 5, none⟩ (.int .i64 5) = y := ⟨_, rfl⟩
          rw [hw3] at HK3 HT3 HA3 ⊢; clear hw3 k5 f5 HT1 HA1 HK1 HB3
          obtain ⟨k, hk⟩ : ∃ k : K, ({ x with st := 5 } : K) = k := ⟨_, rfl⟩
          rw [hk] at HRES HK3; clear hk
          have CN := Lib.hid (HOK.out.next HOC.out HA3.out k)
          generalize nextU u k = res at CN HRES
          obtain ⟨rb, rc, rn⟩ := res
          have HU := Lib.hid HT3.out.bk; have HK := HK3
          go_wp2_with (first | ((with_reducible apply wpList_load_uk (h := HU.out)); exact rfl; exact rfl; exact rfl) | ((with_reducible apply wpList_load_kat (h := HK.out)); exact rfl; exact rfl; exact rfl))
          with_reducible refine CN.out.mono ?_
          rintro e w5 ⟨o5, p5, rfl, ha5, hb5⟩
          have HT7 := Lib.hid (HT3.out.step hb5); have HA7 := Lib.hid ha5; clear HT3 HU HK CN hb5 ha5 HK3
          obtain ⟨z9, a9, b9, h1, h2, h3, h4, h5⟩ := HT7.out.good HA7.out rc rn
          have HQ := Lib.hid h1; have HR9 := Lib.hid h2; have HF1 := Lib.hid h3; have HF2 := Lib.hid h4; have HF3 := Lib.hid h5; clear h1 h2 h3 h4 h5
          go_wp2_with (first | ((with_reducible apply wpList_build_zu); exact rfl; exact rfl) | ((with_reducible apply wpList_build_zg); exact rfl; exact rfl) | ((with_reducible apply wpList_store_uk (b := rb) (s := o5) (t := p5) (hq := HQ.out)); exact rfl; exact rfl; exact rfl; exact rfl) | ((with_reducible apply wpList_store_cg (c := rc) (hq := HR9.out)); exact rfl; exact rfl; exact rfl; exact rfl))
          exact bodyPost_ret (results_u3 Tryz.results12 rfl rfl rfl HF1.out HF2.out) rfl (by rw [HRES.out]; exact HF3.out)
        · have d_h1 : decide (x.st = 1) = false := (by simpa using h1); have n_h1 : (x.st != 1) = true := (by simpa using h1); have q_h1 : (x.st == 1) = false := (by simpa using h1)
          by_cases h2 : x.st = 2
          · have d_h2 : decide (x.st = 2) = true := (by simpa using h2); have n_h2 : (x.st != 2) = false := (by simpa using h2); have q_h2 : (x.st == 2) = true := (by simpa using h2)
            have HS := Lib.hid h2; clear h2 h1
            have HRES : Hid (cancelU u i n = nextU u { x with st := 5 }) := Lib.hid (by rw [HRES0.out, if_neg (fun h => h HO.out), if_neg (by rintro ⟨a, b⟩; first | exact a HS.out | exact b HS.out)])
            clear HRES0
            go_enter Tryz.func12, Tryz.ntmps12
            go_upto_region 1 with fail
            obtain ⟨W, hW⟩ : ∃ W, ((w.alloc (.cells (u.cells sl sd) 36)).alloc (.cells Z26 36)).alloc (.cells Z11 42) = W := ⟨_, rfl⟩
            rw [hW] at HT HA ⊢; clear hW
            generalize w.heap.size + 1 + 1 = r at HT ⊢
            generalize w.heap.size + 1 = q at HT ⊢
            obtain ⟨g, hg⟩ : ∃ g, w.heap.size = g := ⟨_, rfl⟩
            rw [hg] at HT ⊢; clear hg
            have k18 := UkAt.k18 HT.out.bk
            rw [HIS.out] at k18
            have CF0 := findU_any i HA.out (by have := HOK.out.ll; omega) (by have := HOK.out.ld; omega)
            rw [HFI.out] at CF0
            have CF : Hid (Calls Tryz.prog 18 #[u.V sl sd, .int .i64 i] W (fun e w9 => e = .returned (.tuple #[x.V, .bool true]) ∧ Below W.heap.size W w9)) := Lib.hid CF0
            clear CF0
            have HU := Lib.hid HT.out.bk
            go_upto_region 4 with (first | ((with_reducible apply wpList_load_uk (h := HU.out)); exact rfl; exact rfl; exact rfl) | (go_at_call 18; (with_reducible refine CF.out.mono ?_); rintro e w1 ⟨rfl, hb1⟩) | ((with_reducible apply wpList_store_knew (c := x)); exact rfl; exact rfl; exact rfl; exact rfl))
            have hb2 := hb1.trans ((below_new w1 (.cells (x : K).cells 40)).mono hb1.size)
            have HT1 := Lib.hid (HT.out.step hb2); have HA1 := Lib.hid (HA.out.step hb2); have HK1 := Lib.hid (KAt.new w1 x)
            have HS1 : Hid (w.heap.size ≤ w1.heap.size) := Lib.hid (Nat.le_trans HT.out.bel.size hb1.size)
            obtain ⟨w2, hw2⟩ : ∃ y, w1.alloc (.cells (x : K).cells 40) = y := ⟨_, rfl⟩
            rw [hw2] at HT1 HA1 HK1 ⊢
            generalize w1.heap.size = s at HK1 HS1 ⊢
            clear hw2 hb1 hb2 HT HU CF k18
            have k6 := KAt.get6 HK1.out; have k5 := KAt.get5 HK1.out
            have k5 := KAt.get5 HK1.out; have f5 := At.frozen HK1.out 5
            go_upto_region 11 with fail
            have HB3 : Hid (Below w.heap.size w (w2.setCell ⟨s, 5, none⟩ (.int .i64 5))) := Lib.hid (HT1.out.bel.setCell HS1.out _)
            have HK3 := Lib.hid (KAt.set5 HK1.out 5)
            have HT3 : Hid (YU w (w2.setCell ⟨s, 5, none⟩ (.int .i64 5)) g q r u sl sd) := Lib.hid (by
              obtain ⟨z, a, b, hz⟩ := HT1.out.ans
              exact ⟨HB3.out, At.far HT1.out.bk (At.ne HT1.out.bk HK1.out (by decide)) _, ⟨z, a, b, At.far hz (At.ne hz HK1.out (by decide)) _⟩, At.far HT1.out.an2 (At.ne HT1.out.an2 HK1.out (by decide)) _, HT1.out.lo, HT1.out.ne⟩)
            have HA3 := Lib.hid (HA0.out.step HB3.out)
            obtain ⟨w3, hw3⟩ : ∃ y, w2.setCell ⟨s, 5, none⟩ (.int .i64 5) = y := ⟨_, rfl⟩
            rw [hw3] at HK3 HT3 HA3 ⊢; clear hw3 k5 f5 HT1 HA1 HK1 HB3
            obtain ⟨k, hk⟩ : ∃ k : K, ({ x with st := 5 } : K) = k := ⟨_, rfl⟩
            rw [hk] at HRES HK3; clear hk
            have CN := Lib.hid (HOK.out.next HOC.out HA3.out k)
            generalize nextU u k = res at CN HRES
            obtain ⟨rb, rc, rn⟩ := res
            have HU := Lib.hid HT3.out.bk; have HK := HK3
            go_wp2_with (first | ((with_reducible apply wpList_load_uk (h := HU.out)); exact rfl; exact rfl; exact rfl) | ((with_reducible apply wpList_load_kat (h := HK.out)); exact rfl; exact rfl; exact rfl))
            with_reducible refine CN.out.mono ?_
            rintro e w5 ⟨o5, p5, rfl, ha5, hb5⟩
            have HT7 := Lib.hid (HT3.out.step hb5); have HA7 := Lib.hid ha5; clear HT3 HU HK CN hb5 ha5 HK3
            obtain ⟨z9, a9, b9, h1, h2, h3, h4, h5⟩ := HT7.out.good HA7.out rc rn
            have HQ := Lib.hid h1; have HR9 := Lib.hid h2; have HF1 := Lib.hid h3; have HF2 := Lib.hid h4; have HF3 := Lib.hid h5; clear h1 h2 h3 h4 h5
            go_wp2_with (first | ((with_reducible apply wpList_build_zu); exact rfl; exact rfl) | ((with_reducible apply wpList_build_zg); exact rfl; exact rfl) | ((with_reducible apply wpList_store_uk (b := rb) (s := o5) (t := p5) (hq := HQ.out)); exact rfl; exact rfl; exact rfl; exact rfl) | ((with_reducible apply wpList_store_cg (c := rc) (hq := HR9.out)); exact rfl; exact rfl; exact rfl; exact rfl))
            exact bodyPost_ret (results_u3 Tryz.results12 rfl rfl rfl HF1.out HF2.out) rfl (by rw [HRES.out]; exact HF3.out)
          · have d_h2 : decide (x.st = 2) = false := (by simpa using h2); have n_h2 : (x.st != 2) = true := (by simpa using h2); have q_h2 : (x.st == 2) = false := (by simpa using h2)
            have HRES : Hid (cancelU u i n = (zu, zg, 7)) := Lib.hid (by rw [HRES0.out, if_neg (fun h => h HO.out), if_pos ⟨h1, h2⟩])
            clear HRES0 h1 h2
            go_enter Tryz.func12, Tryz.ntmps12
            go_upto_region 1 with fail
            obtain ⟨W, hW⟩ : ∃ W, ((w.alloc (.cells (u.cells sl sd) 36)).alloc (.cells Z26 36)).alloc (.cells Z11 42) = W := ⟨_, rfl⟩
            rw [hW] at HT HA ⊢; clear hW
            generalize w.heap.size + 1 + 1 = r at HT ⊢
            generalize w.heap.size + 1 = q at HT ⊢
            obtain ⟨g, hg⟩ : ∃ g, w.heap.size = g := ⟨_, rfl⟩
            rw [hg] at HT ⊢; clear hg
            have k18 := UkAt.k18 HT.out.bk
            rw [HIS.out] at k18
            have CF0 := findU_any i HA.out (by have := HOK.out.ll; omega) (by have := HOK.out.ld; omega)
            rw [HFI.out] at CF0
            have CF : Hid (Calls Tryz.prog 18 #[u.V sl sd, .int .i64 i] W (fun e w9 => e = .returned (.tuple #[x.V, .bool true]) ∧ Below W.heap.size W w9)) := Lib.hid CF0
            clear CF0
            have HU := Lib.hid HT.out.bk
            go_upto_region 4 with (first | ((with_reducible apply wpList_load_uk (h := HU.out)); exact rfl; exact rfl; exact rfl) | (go_at_call 18; (with_reducible refine CF.out.mono ?_); rintro e w1 ⟨rfl, hb1⟩) | ((with_reducible apply wpList_store_knew (c := x)); exact rfl; exact rfl; exact rfl; exact rfl))
            have hb2 := hb1.trans ((below_new w1 (.cells (x : K).cells 40)).mono hb1.size)
            have HT1 := Lib.hid (HT.out.step hb2); have HA1 := Lib.hid (HA.out.step hb2); have HK1 := Lib.hid (KAt.new w1 x)
            have HS1 : Hid (w.heap.size ≤ w1.heap.size) := Lib.hid (Nat.le_trans HT.out.bel.size hb1.size)
            obtain ⟨w2, hw2⟩ : ∃ y, w1.alloc (.cells (x : K).cells 40) = y := ⟨_, rfl⟩
            rw [hw2] at HT1 HA1 HK1 ⊢
            generalize w1.heap.size = s at HK1 HS1 ⊢
            clear hw2 hb1 hb2 HT HU CF k18
            have k6 := KAt.get6 HK1.out; have k5 := KAt.get5 HK1.out
            obtain ⟨z9, a9, b9, h1, h2, h3, h4, h5⟩ := HT1.out.bad 7
            have HQ := Lib.hid h1; have HR9 := Lib.hid h2; have HF1 := Lib.hid h3; have HF2 := Lib.hid h4; have HF3 := Lib.hid h5; clear h1 h2 h3 h4 h5
            go_wp2_with (first | ((with_reducible apply wpList_build_zu); exact rfl; exact rfl) | ((with_reducible apply wpList_build_zg); exact rfl; exact rfl) | ((with_reducible apply wpList_store_uk (b := zu) (s := s0) (t := s0) (hq := HQ.out)); exact rfl; exact rfl; exact rfl; exact rfl) | ((with_reducible apply wpList_store_cg (c := zg) (hq := HR9.out)); exact rfl; exact rfl; exact rfl; exact rfl))
            exact bodyPost_ret (results_u3 Tryz.results12 rfl rfl rfl HF1.out HF2.out) rfl (by rw [HRES.out]; exact HF3.out)
      · have d_o : decide (x.own = n) = false := (by simpa using ho); have n_o : (x.own != n) = true := (by simpa using ho); have q_o : (x.own == n) = false := (by simpa using ho)
        have HRES : Hid (cancelU u i n = (zu, zg, 8)) := Lib.hid (by rw [HRES0.out, if_pos ho])
        clear HRES0 ho
        go_enter Tryz.func12, Tryz.ntmps12
        go_upto_region 1 with fail
        obtain ⟨W, hW⟩ : ∃ W, ((w.alloc (.cells (u.cells sl sd) 36)).alloc (.cells Z26 36)).alloc (.cells Z11 42) = W := ⟨_, rfl⟩
        rw [hW] at HT HA ⊢; clear hW
        generalize w.heap.size + 1 + 1 = r at HT ⊢
        generalize w.heap.size + 1 = q at HT ⊢
        obtain ⟨g, hg⟩ : ∃ g, w.heap.size = g := ⟨_, rfl⟩
        rw [hg] at HT ⊢; clear hg
        have k18 := UkAt.k18 HT.out.bk
        rw [HIS.out] at k18
        have CF0 := findU_any i HA.out (by have := HOK.out.ll; omega) (by have := HOK.out.ld; omega)
        rw [HFI.out] at CF0
        have CF : Hid (Calls Tryz.prog 18 #[u.V sl sd, .int .i64 i] W (fun e w9 => e = .returned (.tuple #[x.V, .bool true]) ∧ Below W.heap.size W w9)) := Lib.hid CF0
        clear CF0
        have HU := Lib.hid HT.out.bk
        go_upto_region 4 with (first | ((with_reducible apply wpList_load_uk (h := HU.out)); exact rfl; exact rfl; exact rfl) | (go_at_call 18; (with_reducible refine CF.out.mono ?_); rintro e w1 ⟨rfl, hb1⟩) | ((with_reducible apply wpList_store_knew (c := x)); exact rfl; exact rfl; exact rfl; exact rfl))
        have hb2 := hb1.trans ((below_new w1 (.cells (x : K).cells 40)).mono hb1.size)
        have HT1 := Lib.hid (HT.out.step hb2); have HA1 := Lib.hid (HA.out.step hb2); have HK1 := Lib.hid (KAt.new w1 x)
        have HS1 : Hid (w.heap.size ≤ w1.heap.size) := Lib.hid (Nat.le_trans HT.out.bel.size hb1.size)
        obtain ⟨w2, hw2⟩ : ∃ y, w1.alloc (.cells (x : K).cells 40) = y := ⟨_, rfl⟩
        rw [hw2] at HT1 HA1 HK1 ⊢
        generalize w1.heap.size = s at HK1 HS1 ⊢
        clear hw2 hb1 hb2 HT HU CF k18
        have k6 := KAt.get6 HK1.out; have k5 := KAt.get5 HK1.out
        obtain ⟨z9, a9, b9, h1, h2, h3, h4, h5⟩ := HT1.out.bad 8
        have HQ := Lib.hid h1; have HR9 := Lib.hid h2; have HF1 := Lib.hid h3; have HF2 := Lib.hid h4; have HF3 := Lib.hid h5; clear h1 h2 h3 h4 h5
        go_wp2_with (first | ((with_reducible apply wpList_build_zu); exact rfl; exact rfl) | ((with_reducible apply wpList_build_zg); exact rfl; exact rfl) | ((with_reducible apply wpList_store_uk (b := zu) (s := s0) (t := s0) (hq := HQ.out)); exact rfl; exact rfl; exact rfl; exact rfl) | ((with_reducible apply wpList_store_cg (c := zg) (hq := HR9.out)); exact rfl; exact rfl; exact rfl; exact rfl))
        exact bodyPost_ret (results_u3 Tryz.results12 rfl rfl rfl HF1.out HF2.out) rfl (by rw [HRES.out]; exact HF3.out)
end Go.Proofs.YtodacdooooeofaaGreat
