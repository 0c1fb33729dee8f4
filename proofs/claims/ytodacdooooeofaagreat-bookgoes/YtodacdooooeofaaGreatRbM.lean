/- A change of some call that lives. -/
import Derived.Test.YtodacdooooeofaaGreatRbK
import Derived.Deep.CutBlock
namespace Go.Proofs.YtodacdooooeofaaGreat
open Go.RowKit Go.Lib
open Sh.Plain (KV put del Rise)
set_option linter.unusedVariables false
set_option linter.unusedSimpArgs false

/-- what next answers: some change of the next index -/
def NxPost (u : U) (w : World) (e : Ending) (w' : World) : Prop := ∃ x : Cg, x.ix = u.ix + 1 ∧ e = .returned x.V ∧ Below w.heap.size w w'
theorem wpList_build_nx (y z : Tmp) {ops : Array Oper} {rest : List Oper} {o : Oper} {a : Act} {w : World} {Q : Exit → Act → World → Prop} (ho : o.op = .build 42 #[(0, .tmp y), (1, .tmp z)]) (hgd : o.guard = none) {n : Int} {c : K} (e0 : a.eval (.tmp y) = .int .i64 n) (e : a.eval (.tmp z) = c.V) (k : wpList Tryz.prog ops Q rest (a.put o.dst (⟨n, c, 0, 0⟩ : Cg).V) w) : wpList Tryz.prog ops Q (o :: rest) a w :=
  wpList_build_as hgd 42 _ ho (⟨n, c, 0, 0⟩ : Cg).cells (by simp only [List.map_toArray, List.map_cons, List.map_nil, e0, e]; exact built_nx c n) k
theorem pick_range (p : Int) {n : Int} (h1 : 0 < n) (h2 : n ≤ 1000) : ∃ k : Int, wrap64 ((IntKind.u64.wrap p).tmod (IntKind.u64.wrap (8 * n))) = k ∧ 0 ≤ k ∧ k < 8 * n ∧ IntKind.u64.wrap (8 * n) = 8 * n := by
  have e8 : IntKind.u64.wrap (8 * n) = 8 * n := by
    simp only [IntKind.wrap, IntKind.signed, IntKind.bits]
    simp
    omega
  have h0 : 0 ≤ IntKind.u64.wrap p := by
    simp only [IntKind.wrap, IntKind.signed, IntKind.bits]
    simp
    omega
  rw [e8]
  generalize IntKind.u64.wrap p = z at *
  have e : z.tmod (8 * n) = z % (8 * n) := Int.tmod_eq_emod_of_nonneg h0
  have a1 : 0 ≤ z % (8 * n) := Int.emod_nonneg _ (by omega)
  have a2 : z % (8 * n) < 8 * n := Int.emod_lt_of_pos _ (by omega)
  exact ⟨z % (8 * n), by rw [e, IntWalk.wrap64_in _ (by omega)], a1, a2, rfl⟩
theorem mod_five (m : Int) : ∃ k : Int, wrap64 (1 + wrap64 ((IntKind.u64.wrap m).tmod 5)) = k := ⟨_, rfl⟩
structure NW (w wx : World) (g r : Nat) (u : U) (s t : Sl) : Prop where
  bel : Below w.heap.size w wx
  bk : UkAt wx g u s t
  rows : UAt wx u s t
  ans : CgAt wx r zg
  lo : w.heap.size ≤ r
theorem NW.step {w W wx : World} {g r : Nat} {u : U} {s t : Sl} (h : NW w W g r u s t) (hb : Below W.heap.size W wx) : NW w wx g r u s t := ⟨h.bel.trans (hb.mono h.bel.size), At.step h.bk hb, h.rows.step hb, At.step h.ans hb, h.lo⟩
theorem NW.setk {w wx : World} {g r c8 : Nat} {u : U} {s t : Sl} {k k' : K} (h : NW w wx g r u s t) (hk : KAt wx c8 k) (hlo : wx.heap.size ≤ wx.heap.size) (hl : w.heap.size ≤ c8) {i : Nat} {v : Value} (hk' : KAt (wx.setCell ⟨c8, i, none⟩ v) c8 k') : Below w.heap.size w (wx.setCell ⟨c8, i, none⟩ v) ∧ UkAt (wx.setCell ⟨c8, i, none⟩ v) g u s t ∧ CgAt (wx.setCell ⟨c8, i, none⟩ v) r zg :=
  ⟨h.bel.setCell hl _, At.far h.bk (At.ne h.bk hk (by decide)) _, At.far h.ans (At.ne h.ans hk (by decide)) _⟩
/-- what stands there while the call is written to -/
structure NK (w wx : World) (g r c8 : Nat) (u : U) (s t : Sl) (k : K) : Prop where
  bel : Below w.heap.size w wx
  bk : UkAt wx g u s t
  ans : CgAt wx r zg
  k : KAt wx c8 k
  lo : w.heap.size ≤ r ∧ w.heap.size ≤ c8
theorem NK.set {w wx : World} {g r c8 : Nat} {u : U} {s t : Sl} {k k' : K} (h : NK w wx g r c8 u s t k) {i : Nat} {v : Value} (hk' : KAt (wx.setCell ⟨c8, i, none⟩ v) c8 k') : NK w (wx.setCell ⟨c8, i, none⟩ v) g r c8 u s t k' :=
  ⟨h.bel.setCell h.lo.2 _, At.far h.bk (At.ne h.bk h.k (by decide)) _, At.far h.ans (At.ne h.ans h.k (by decide)) _, hk', h.lo⟩
set_option maxRecDepth 100000 in
set_option maxHeartbeats 4000000 in
theorem next_any {u : U} {s t : Sl} (p n : Int) {w : World} (ha : UAt w u s t) (hok : u.Ok) (hne : 0 < u.live.length) : Calls Tryz.prog 20 #[u.V s t, .int .i64 p, .int .i64 n] w (NxPost u w) := by
  have H0 := new2 w (u.cells s t) zg.cells 36 42
  have HN : Hid (NW w ((w.alloc (.cells (u.cells s t) 36)).alloc (.cells Z11 42)) w.heap.size (w.heap.size + 1) u s t) := Lib.hid ⟨H0.1, H0.2.1, ha.step H0.1, H0.2.2, by omega⟩
  have hll := hok.ll
  have hw : IntKind.i64.wrap (u.ix + 1) = u.ix + 1 := IntWalk.i64_in _ (by have := hok.ix; omega)
  have hw2 : wrap64 (u.ix + 1) = u.ix + 1 := IntWalk.wrap64_in _ (by have := hok.ix; omega)
  clear H0 ha hok
  obtain ⟨N, hN⟩ : ∃ N, u.live.length = N := ⟨_, rfl⟩
  rw [hN] at hll hne
  have HNN := Lib.hid hN; clear hN
  obtain ⟨k, hk, k0, k1, e8⟩ := pick_range p (n := (N : Int)) (by omega) (by omega)
  have w8 : IntKind.i64.wrap (8 * (N : Int)) = 8 * (N : Int) := IntWalk.i64_in _ (by omega)
  have w82 : wrap64 (8 * (N : Int)) = 8 * (N : Int) := IntWalk.wrap64_in _ (by omega)
  have hz8 : (8 * (N : Int) == 0) = false := by simp; omega
  have hz9 : decide (8 * (N : Int) = 0) = false := by simp; omega
  rw [e8] at hk
  go_enter Tryz.func20, Tryz.ntmps20
  go_upto_region 1 with fail
  obtain ⟨W, hW⟩ : ∃ W, (w.alloc (.cells (u.cells s t) 36)).alloc (.cells Z11 42) = W := ⟨_, rfl⟩
  rw [hW] at HN ⊢; clear hW
  generalize w.heap.size + 1 = r at *
  obtain ⟨g, hg⟩ : ∃ g, w.heap.size = g := ⟨_, rfl⟩
  rw [hg] at HN ⊢; clear hg
  have kl := UkAt.k20 HN.out.bk
  rw [HNN.out] at kl
  go_upto_region 2 with fail
  rw [hk]; clear hk e8 w8 w82 hz8 hz9
  have hi : (k / 8).toNat < N := by omega
  have b3 : k / 8 < (N : Int) := by omega
  have b4 : (0 : Int) ≤ k / 8 := by omega
  have hj2 : (k / 8).toNat < u.live.length := by rw [HNN.out]; exact hi
  obtain ⟨b, off, hs, hb, hr⟩ := rd_cell HN.out.rows.1.1 hj2
  generalize u.live[(k / 8).toNat] = x at *
  obtain ⟨sl1, sl2⟩ := s
  obtain rfl : sl1 = some ⟨b, off, none⟩ := hs
  have HR := Lib.hid hr
  have kl2 : W.cell? ⟨g, 20, none⟩ = some (.slice (some ⟨b, off, none⟩) N sl2) := kl
  clear kl hr hb
  go_upto_region 3 with (first | ((with_reducible apply wpList_load_kpart (c := x) (h := HR.out)); exact rfl; exact rfl; exact rfl) | ((with_reducible apply wpList_store_knew (c := x)); exact rfl; exact rfl; exact rfl; exact rfl))
  have hbn := below_new W (.cells x.cells 40)
  have HN2 := HN.out.step hbn
  have HK0 : Hid (NK w (W.alloc (.cells x.cells 40)) g r W.heap.size u (some ⟨b, off, none⟩, sl2) t x) := Lib.hid ⟨HN2.bel, HN2.bk, HN2.ans, KAt.new W x, HN2.lo, HN.out.bel.size⟩
  obtain ⟨W2, hW2⟩ : ∃ y, W.alloc (.cells x.cells 40) = y := ⟨_, rfl⟩
  rw [hW2] at HK0 ⊢; clear hW2 hbn HN2 HN HR kl2
  generalize W.heap.size = c8 at *
  generalize ((some ⟨b, off, none⟩, sl2) : Sl) = s at *
  clear b3 b4 hj2 hi k1
  obtain ⟨m, hm, m0, m8⟩ : ∃ m : Int, k % 8 = m ∧ 0 ≤ m ∧ m < 8 := ⟨k % 8, rfl, by omega, by omega⟩
  have hm2 : k.tmod 8 = m := by rw [Int.tmod_eq_emod_of_nonneg k0, hm]
  go_upto_region 7 with fail
  have hc : m = 0 ∨ m = 1 ∨ m = 2 ∨ m = 3 ∨ m = 4 ∨ m = 5 ∨ m = 6 ∨ m = 7 := by omega
  clear m0 m8 hm hm2 k0
  rcases hc with rfl | rfl | rfl | rfl | rfl | rfl | rfl | rfl
  · go_upto_region 10 with fail
    have k5 := KAt.get5 HK0.out.k; have f5 := At.frozen HK0.out.k 5
    go_upto_region 11 with fail
    have HK1 := Lib.hid (HK0.out.set (KAt.set5 HK0.out.k 2))
    obtain ⟨y1, hy⟩ : ∃ y, W2.setCell ⟨c8, 5, none⟩ (.int .i64 2) = y := ⟨_, rfl⟩
    rw [hy] at HK1 ⊢; clear hy k5 f5 HK0
    have k4 := KAt.get4 HK1.out.k; have f4 := At.frozen HK1.out.k 4
    go_upto_region 19 with fail
    have HK2 := Lib.hid (HK1.out.set (KAt.set4 HK1.out.k 1))
    obtain ⟨y2, hy⟩ : ∃ y, y1.setCell ⟨c8, 4, none⟩ (.int .i64 1) = y := ⟨_, rfl⟩
    rw [hy] at HK2 ⊢; clear hy k4 f4 HK1
    obtain ⟨kk, hkk⟩ : ∃ kk : K, NK w y2 g r c8 u s t kk := ⟨_, HK2.out⟩
    clear HK2
    have HZ := Lib.hid hkk; clear hkk
    have k19 := UkAt.k19 HZ.out.bk; have HKZ := Lib.hid HZ.out.k; have HRZ := Lib.hid HZ.out.ans
    have HBZ := Lib.hid HZ.out.bel; have HLZ := Lib.hid HZ.out.lo.1
    clear HZ
    go_wp2_with (first | ((with_reducible apply wpList_load_kat (h := HKZ.out)); exact rfl; exact rfl; exact rfl) | ((with_reducible apply wpList_build_nx 52 53 (n := u.ix + 1) (c := kk)); exact rfl; exact rfl; exact rfl; exact rfl) | ((with_reducible apply wpList_store_cg (c := (⟨u.ix + 1, kk, 0, 0⟩ : Cg)) (hq := HRZ.out)); exact rfl; exact rfl; exact rfl; exact rfl))
    exact bodyPost_ret (results_cell_row (P := Tryz.prog) Tryz.results20 _ _ r 42 (⟨u.ix + 1, kk, 0, 0⟩ : Cg).cells (0, 0) _ rfl (At.setRow HRZ.out _) Tryz.underlying42 rfl (size39 _)) rfl ⟨_, rfl, rfl, setRow_below HBZ.out HLZ.out _⟩
  · go_upto_region 10 with fail
    have k5 := KAt.get5 HK0.out.k; have f5 := At.frozen HK0.out.k 5
    go_upto_region 11 with fail
    have HK1 := Lib.hid (HK0.out.set (KAt.set5 HK0.out.k 2))
    obtain ⟨y1, hy⟩ : ∃ y, W2.setCell ⟨c8, 5, none⟩ (.int .i64 2) = y := ⟨_, rfl⟩
    rw [hy] at HK1 ⊢; clear hy k5 f5 HK0
    have k4 := KAt.get4 HK1.out.k; have f4 := At.frozen HK1.out.k 4
    go_upto_region 19 with fail
    have HK2 := Lib.hid (HK1.out.set (KAt.set4 HK1.out.k 1))
    obtain ⟨y2, hy⟩ : ∃ y, y1.setCell ⟨c8, 4, none⟩ (.int .i64 1) = y := ⟨_, rfl⟩
    rw [hy] at HK2 ⊢; clear hy k4 f4 HK1
    obtain ⟨kk, hkk⟩ : ∃ kk : K, NK w y2 g r c8 u s t kk := ⟨_, HK2.out⟩
    clear HK2
    have HZ := Lib.hid hkk; clear hkk
    have k19 := UkAt.k19 HZ.out.bk; have HKZ := Lib.hid HZ.out.k; have HRZ := Lib.hid HZ.out.ans
    have HBZ := Lib.hid HZ.out.bel; have HLZ := Lib.hid HZ.out.lo.1
    clear HZ
    go_wp2_with (first | ((with_reducible apply wpList_load_kat (h := HKZ.out)); exact rfl; exact rfl; exact rfl) | ((with_reducible apply wpList_build_nx 52 53 (n := u.ix + 1) (c := kk)); exact rfl; exact rfl; exact rfl; exact rfl) | ((with_reducible apply wpList_store_cg (c := (⟨u.ix + 1, kk, 0, 0⟩ : Cg)) (hq := HRZ.out)); exact rfl; exact rfl; exact rfl; exact rfl))
    exact bodyPost_ret (results_cell_row (P := Tryz.prog) Tryz.results20 _ _ r 42 (⟨u.ix + 1, kk, 0, 0⟩ : Cg).cells (0, 0) _ rfl (At.setRow HRZ.out _) Tryz.underlying42 rfl (size39 _)) rfl ⟨_, rfl, rfl, setRow_below HBZ.out HLZ.out _⟩
  · go_upto_region 10 with fail
    have k5 := KAt.get5 HK0.out.k; have f5 := At.frozen HK0.out.k 5
    go_upto_region 11 with fail
    have HK1 := Lib.hid (HK0.out.set (KAt.set5 HK0.out.k 2))
    obtain ⟨y1, hy⟩ : ∃ y, W2.setCell ⟨c8, 5, none⟩ (.int .i64 2) = y := ⟨_, rfl⟩
    rw [hy] at HK1 ⊢; clear hy k5 f5 HK0
    have k4 := KAt.get4 HK1.out.k; have f4 := At.frozen HK1.out.k 4
    go_upto_region 19 with fail
    have HK2 := Lib.hid (HK1.out.set (KAt.set4 HK1.out.k 1))
    obtain ⟨y2, hy⟩ : ∃ y, y1.setCell ⟨c8, 4, none⟩ (.int .i64 1) = y := ⟨_, rfl⟩
    rw [hy] at HK2 ⊢; clear hy k4 f4 HK1
    obtain ⟨kk, hkk⟩ : ∃ kk : K, NK w y2 g r c8 u s t kk := ⟨_, HK2.out⟩
    clear HK2
    have HZ := Lib.hid hkk; clear hkk
    have k19 := UkAt.k19 HZ.out.bk; have HKZ := Lib.hid HZ.out.k; have HRZ := Lib.hid HZ.out.ans
    have HBZ := Lib.hid HZ.out.bel; have HLZ := Lib.hid HZ.out.lo.1
    clear HZ
    go_wp2_with (first | ((with_reducible apply wpList_load_kat (h := HKZ.out)); exact rfl; exact rfl; exact rfl) | ((with_reducible apply wpList_build_nx 52 53 (n := u.ix + 1) (c := kk)); exact rfl; exact rfl; exact rfl; exact rfl) | ((with_reducible apply wpList_store_cg (c := (⟨u.ix + 1, kk, 0, 0⟩ : Cg)) (hq := HRZ.out)); exact rfl; exact rfl; exact rfl; exact rfl))
    exact bodyPost_ret (results_cell_row (P := Tryz.prog) Tryz.results20 _ _ r 42 (⟨u.ix + 1, kk, 0, 0⟩ : Cg).cells (0, 0) _ rfl (At.setRow HRZ.out _) Tryz.underlying42 rfl (size39 _)) rfl ⟨_, rfl, rfl, setRow_below HBZ.out HLZ.out _⟩
  · go_upto_region 13 with fail
    have k5 := KAt.get5 HK0.out.k; have f5 := At.frozen HK0.out.k 5
    go_upto_region 19 with fail
    have HK1 := Lib.hid (HK0.out.set (KAt.set5 HK0.out.k 3))
    obtain ⟨y1, hy⟩ : ∃ y, W2.setCell ⟨c8, 5, none⟩ (.int .i64 3) = y := ⟨_, rfl⟩
    rw [hy] at HK1 ⊢; clear hy k5 f5 HK0
    obtain ⟨kk, hkk⟩ : ∃ kk : K, NK w y1 g r c8 u s t kk := ⟨_, HK1.out⟩
    clear HK1
    have HZ := Lib.hid hkk; clear hkk
    have k19 := UkAt.k19 HZ.out.bk; have HKZ := Lib.hid HZ.out.k; have HRZ := Lib.hid HZ.out.ans
    have HBZ := Lib.hid HZ.out.bel; have HLZ := Lib.hid HZ.out.lo.1
    clear HZ
    go_wp2_with (first | ((with_reducible apply wpList_load_kat (h := HKZ.out)); exact rfl; exact rfl; exact rfl) | ((with_reducible apply wpList_build_nx 52 53 (n := u.ix + 1) (c := kk)); exact rfl; exact rfl; exact rfl; exact rfl) | ((with_reducible apply wpList_store_cg (c := (⟨u.ix + 1, kk, 0, 0⟩ : Cg)) (hq := HRZ.out)); exact rfl; exact rfl; exact rfl; exact rfl))
    exact bodyPost_ret (results_cell_row (P := Tryz.prog) Tryz.results20 _ _ r 42 (⟨u.ix + 1, kk, 0, 0⟩ : Cg).cells (0, 0) _ rfl (At.setRow HRZ.out _) Tryz.underlying42 rfl (size39 _)) rfl ⟨_, rfl, rfl, setRow_below HBZ.out HLZ.out _⟩
  · go_upto_region 16 with fail
    have k5 := KAt.get5 HK0.out.k; have f5 := At.frozen HK0.out.k 5
    go_upto_region 19 with fail
    have HK1 := Lib.hid (HK0.out.set (KAt.set5 HK0.out.k 4))
    obtain ⟨y1, hy⟩ : ∃ y, W2.setCell ⟨c8, 5, none⟩ (.int .i64 4) = y := ⟨_, rfl⟩
    rw [hy] at HK1 ⊢; clear hy k5 f5 HK0
    obtain ⟨kk, hkk⟩ : ∃ kk : K, NK w y1 g r c8 u s t kk := ⟨_, HK1.out⟩
    clear HK1
    have HZ := Lib.hid hkk; clear hkk
    have k19 := UkAt.k19 HZ.out.bk; have HKZ := Lib.hid HZ.out.k; have HRZ := Lib.hid HZ.out.ans
    have HBZ := Lib.hid HZ.out.bel; have HLZ := Lib.hid HZ.out.lo.1
    clear HZ
    go_wp2_with (first | ((with_reducible apply wpList_load_kat (h := HKZ.out)); exact rfl; exact rfl; exact rfl) | ((with_reducible apply wpList_build_nx 52 53 (n := u.ix + 1) (c := kk)); exact rfl; exact rfl; exact rfl; exact rfl) | ((with_reducible apply wpList_store_cg (c := (⟨u.ix + 1, kk, 0, 0⟩ : Cg)) (hq := HRZ.out)); exact rfl; exact rfl; exact rfl; exact rfl))
    exact bodyPost_ret (results_cell_row (P := Tryz.prog) Tryz.results20 _ _ r 42 (⟨u.ix + 1, kk, 0, 0⟩ : Cg).cells (0, 0) _ rfl (At.setRow HRZ.out _) Tryz.underlying42 rfl (size39 _)) rfl ⟨_, rfl, rfl, setRow_below HBZ.out HLZ.out _⟩
  · go_upto_region 16 with fail
    have k5 := KAt.get5 HK0.out.k; have f5 := At.frozen HK0.out.k 5
    go_upto_region 19 with fail
    have HK1 := Lib.hid (HK0.out.set (KAt.set5 HK0.out.k 4))
    obtain ⟨y1, hy⟩ : ∃ y, W2.setCell ⟨c8, 5, none⟩ (.int .i64 4) = y := ⟨_, rfl⟩
    rw [hy] at HK1 ⊢; clear hy k5 f5 HK0
    obtain ⟨kk, hkk⟩ : ∃ kk : K, NK w y1 g r c8 u s t kk := ⟨_, HK1.out⟩
    clear HK1
    have HZ := Lib.hid hkk; clear hkk
    have k19 := UkAt.k19 HZ.out.bk; have HKZ := Lib.hid HZ.out.k; have HRZ := Lib.hid HZ.out.ans
    have HBZ := Lib.hid HZ.out.bel; have HLZ := Lib.hid HZ.out.lo.1
    clear HZ
    go_wp2_with (first | ((with_reducible apply wpList_load_kat (h := HKZ.out)); exact rfl; exact rfl; exact rfl) | ((with_reducible apply wpList_build_nx 52 53 (n := u.ix + 1) (c := kk)); exact rfl; exact rfl; exact rfl; exact rfl) | ((with_reducible apply wpList_store_cg (c := (⟨u.ix + 1, kk, 0, 0⟩ : Cg)) (hq := HRZ.out)); exact rfl; exact rfl; exact rfl; exact rfl))
    exact bodyPost_ret (results_cell_row (P := Tryz.prog) Tryz.results20 _ _ r 42 (⟨u.ix + 1, kk, 0, 0⟩ : Cg).cells (0, 0) _ rfl (At.setRow HRZ.out _) Tryz.underlying42 rfl (size39 _)) rfl ⟨_, rfl, rfl, setRow_below HBZ.out HLZ.out _⟩
  · go_upto_region 18 with fail
    have k5 := KAt.get5 HK0.out.k; have f5 := At.frozen HK0.out.k 5
    go_upto_region 19 with fail
    have HK1 := Lib.hid (HK0.out.set (KAt.set5 HK0.out.k 5))
    obtain ⟨y1, hy⟩ : ∃ y, W2.setCell ⟨c8, 5, none⟩ (.int .i64 5) = y := ⟨_, rfl⟩
    rw [hy] at HK1 ⊢; clear hy k5 f5 HK0
    obtain ⟨kk, hkk⟩ : ∃ kk : K, NK w y1 g r c8 u s t kk := ⟨_, HK1.out⟩
    clear HK1
    have HZ := Lib.hid hkk; clear hkk
    have k19 := UkAt.k19 HZ.out.bk; have HKZ := Lib.hid HZ.out.k; have HRZ := Lib.hid HZ.out.ans
    have HBZ := Lib.hid HZ.out.bel; have HLZ := Lib.hid HZ.out.lo.1
    clear HZ
    go_wp2_with (first | ((with_reducible apply wpList_load_kat (h := HKZ.out)); exact rfl; exact rfl; exact rfl) | ((with_reducible apply wpList_build_nx 52 53 (n := u.ix + 1) (c := kk)); exact rfl; exact rfl; exact rfl; exact rfl) | ((with_reducible apply wpList_store_cg (c := (⟨u.ix + 1, kk, 0, 0⟩ : Cg)) (hq := HRZ.out)); exact rfl; exact rfl; exact rfl; exact rfl))
    exact bodyPost_ret (results_cell_row (P := Tryz.prog) Tryz.results20 _ _ r 42 (⟨u.ix + 1, kk, 0, 0⟩ : Cg).cells (0, 0) _ rfl (At.setRow HRZ.out _) Tryz.underlying42 rfl (size39 _)) rfl ⟨_, rfl, rfl, setRow_below HBZ.out HLZ.out _⟩
  · go_upto_region 4 with fail
    have k5 := KAt.get5 HK0.out.k; have f5 := At.frozen HK0.out.k 5
    go_upto_region 5 with fail
    have HK1 := Lib.hid (HK0.out.set (KAt.set5 HK0.out.k 1))
    obtain ⟨y1, hy⟩ : ∃ y, W2.setCell ⟨c8, 5, none⟩ (.int .i64 1) = y := ⟨_, rfl⟩
    rw [hy] at HK1 ⊢; clear hy k5 f5 HK0
    have k4 := KAt.get4 HK1.out.k; have f4 := At.frozen HK1.out.k 4
    go_upto_region 6 with fail
    have HK2 := Lib.hid (HK1.out.set (KAt.set4 HK1.out.k 0))
    obtain ⟨y2, hy⟩ : ∃ y, y1.setCell ⟨c8, 4, none⟩ (.int .i64 0) = y := ⟨_, rfl⟩
    rw [hy] at HK2 ⊢; clear hy k4 f4 HK1
    obtain ⟨v5, hv5⟩ := mod_five n
    have k2 := KAt.get2 HK2.out.k; have f2 := At.frozen HK2.out.k 2
    go_upto_region 19 with fail
    rw [hv5]; clear hv5
    have HK3 := Lib.hid (HK2.out.set (KAt.set2 HK2.out.k v5))
    obtain ⟨y3, hy⟩ : ∃ y, y2.setCell ⟨c8, 2, none⟩ (.int .i64 v5) = y := ⟨_, rfl⟩
    rw [hy] at HK3 ⊢; clear hy k2 f2 HK2
    obtain ⟨kk, hkk⟩ : ∃ kk : K, NK w y3 g r c8 u s t kk := ⟨_, HK3.out⟩
    clear HK3
    have HZ := Lib.hid hkk; clear hkk
    have k19 := UkAt.k19 HZ.out.bk; have HKZ := Lib.hid HZ.out.k; have HRZ := Lib.hid HZ.out.ans
    have HBZ := Lib.hid HZ.out.bel; have HLZ := Lib.hid HZ.out.lo.1
    clear HZ
    go_wp2_with (first | ((with_reducible apply wpList_load_kat (h := HKZ.out)); exact rfl; exact rfl; exact rfl) | ((with_reducible apply wpList_build_nx 52 53 (n := u.ix + 1) (c := kk)); exact rfl; exact rfl; exact rfl; exact rfl) | ((with_reducible apply wpList_store_cg (c := (⟨u.ix + 1, kk, 0, 0⟩ : Cg)) (hq := HRZ.out)); exact rfl; exact rfl; exact rfl; exact rfl))
    exact bodyPost_ret (results_cell_row (P := Tryz.prog) Tryz.results20 _ _ r 42 (⟨u.ix + 1, kk, 0, 0⟩ : Cg).cells (0, 0) _ rfl (At.setRow HRZ.out _) Tryz.underlying42 rfl (size39 _)) rfl ⟨_, rfl, rfl, setRow_below HBZ.out HLZ.out _⟩
end Go.Proofs.YtodacdooooeofaaGreat
