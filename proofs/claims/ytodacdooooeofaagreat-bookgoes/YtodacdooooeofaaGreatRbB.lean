/- The document's own book: New, Find. -/
import Derived.Test.YtodacdooooeofaaGreatRbA
namespace Go.Proofs.YtodacdooooeofaaGreat
open Go.RowKit Go.Lib
open Sh.Plain (KV get put del Rise)
set_option linter.unusedVariables false
set_option linter.unusedSimpArgs false

def newUk (c : Cfg) (j : Nat) : U := ⟨c, true, 0, [], [], modesTo j, modesTo_len j⟩
def newU (c : Cfg) : U := if okc c = true then newUk c (c.get 1).toNat else zu
def setL (cs : Array Value) : Nat → List Value → Array Value
  | _, [] => cs
  | o, v :: r => setL (cs.setIfInBounds o v) (o + 1) r
theorem At.setCells {g : Nat} {t : TypeId} : ∀ {vs : List Value} {o : Nat} {cs : Array Value} {w : World}, At w g t cs → At (w.setCells g o vs) g t (setL cs o vs)
  | [], o, cs, w, h => h
  | v :: r, o, cs, w, h => by
    have h2 := At.setCells (vs := r) (o := o + 1) (At.set h o v)
    exact h2
theorem setL_conf (c : Cfg) : setL (zu.cells s0 s0) 0 c.cells.toList = (⟨c, false, 0, [], [], [0, 0, 0, 0], rfl⟩ : U).cells s0 s0 := by
  obtain ⟨n, s, hl⟩ := c
  match n, hl with
  | [a0, a1, a2, a3, a4, a5, a6, a7, a8, a9, a10, a11, a12, a13, a14, a15, a16], _ => show _ = _; kernel_rfl
theorem At.farCells {g q : Nat} {t : TypeId} {cs : Array Value} (hne : g ≠ q) : ∀ {vs : List Value} {o : Nat} {w : World}, At w g t cs → At (w.setCells q o vs) g t cs
  | [], o, w, h => h
  | v :: r, o, w, h => by
    have h2 := At.farCells hne (vs := r) (o := o + 1) (At.far (p := ⟨q, o, none⟩) h hne v)
    exact h2
theorem below_setCells {B q : Nat} {a : World} (hq : B ≤ q) : ∀ {vs : List Value} {o : Nat} {w : World}, Below B a w → Below B a (w.setCells q o vs)
  | [], o, w, h => h
  | v :: r, o, w, h => by
    have h2 := below_setCells hq (vs := r) (o := o + 1) (h.setCell (p := ⟨q, o, none⟩) hq v)
    exact h2
/-- the state in New -/
structure VSt (w W : World) (g q t : Nat) (c : Cfg) (b : U) : Prop where
  bel : Below w.heap.size w W
  cat : CAt W g c
  ans : UkAt W q zu s0 s0
  bk : UkAt W t b s0 s0
  lo : w.heap.size ≤ q ∧ w.heap.size ≤ t
  ne : q ≠ t
theorem VSt.step {w W W' : World} {g q t : Nat} {c : Cfg} {b : U} (h : VSt w W g q t c b) (hb : Below W.heap.size W W') : VSt w W' g q t c b := ⟨h.bel.trans (hb.mono h.bel.size), h.cat.step hb, At.step h.ans hb, At.step h.bk hb, h.lo, h.ne⟩
theorem VSt.new {w W : World} {g q : Nat} {c : Cfg} (h1 : Below w.heap.size w W) (h2 : CAt W g c) (h3 : UkAt W q zu s0 s0) (lo : w.heap.size ≤ q) : VSt w (W.alloc (.cells (zu.cells s0 s0) 36)) g q W.heap.size c zu := by
  have hb := below_new W (.cells (zu.cells s0 s0) 36)
  exact ⟨h1.trans (hb.mono h1.size), h2.step hb, At.step h3 hb, UkAt.new W zu s0 s0, ⟨lo, h1.size⟩, Nat.ne_of_lt (At.lt h3)⟩
theorem VSt.put {w W W' : World} {g q t : Nat} {c : Cfg} {b b' : U} (h : VSt w W g q t c b) (h1 : Below w.heap.size w W') (h2 : CAt W' g c) (h3 : UkAt W' q zu s0 s0) (h4 : UkAt W' t b' s0 s0) : VSt w W' g q t c b' := ⟨h1, h2, h3, h4, h.lo, h.ne⟩
theorem VSt.conf {w W : World} {g q t : Nat} {c : Cfg} (h : VSt w W g q t c zu) : VSt w (W.setCells t 0 c.cells.toList) g q t c ⟨c, false, 0, [], [], [0, 0, 0, 0], rfl⟩ := by
  refine h.put (below_setCells h.lo.2 h.bel) (At.farCells (At.ne h.cat h.bk (by decide)) h.cat) (At.farCells h.ne h.ans) ?_
  have := At.setCells (vs := c.cells.toList) (o := 0) h.bk
  rwa [setL_conf] at this
theorem VSt.one {w W : World} {g q t : Nat} {c : Cfg} {b b' : U} {i : Nat} {v : Value} (h : VSt w W g q t c b) (hb : UkAt (W.setCell ⟨t, i, none⟩ v) t b' s0 s0) : VSt w (W.setCell ⟨t, i, none⟩ v) g q t c b' :=
  h.put (h.bel.setCell h.lo.2 _) (At.far h.cat (At.ne h.cat h.bk (by decide)) _) (At.far h.ans h.ne _) hb
theorem VSt.setM {w W : World} {g q t j : Nat} {c : Cfg} (h : VSt w W g q t c (newUk c j)) (hj : j < 4) : VSt w (W.setCell ⟨t, 22 + j, none⟩ (.int .i64 1)) g q t c (newUk c (j + 1)) := by
  refine h.one ?_
  have hm := UkAt.setM h.bk hj 1
  have e : ({ newUk c j with m := (newUk c j).m.set j 1, ml := by rw [List.length_set]; exact (newUk c j).ml } : U) = newUk c (j + 1) := by
    simp only [newUk, modesTo_set hj]
  rw [e] at hm
  exact hm
theorem UAt.none (w : World) (u : U) (h1 : u.live = []) (h2 : u.done = []) : UAt w u s0 s0 := by
  unfold UAt
  rw [h1, h2]
  exact ⟨RdF.nil w, RdF.nil w⟩
theorem wpList_store_conf {ops : Array Oper} {rest : List Oper} {o : Oper} {a : Act} {w : World} {Q : Exit → Act → World → Prop} (x y : Tmp) (ho : o.op = .store 24 (.tmp x) (.tmp y)) (hgd : o.guard = none) {q : Nat} {z : U} {s t : Sl} {c : Cfg} (e1 : a.eval (.tmp x) = ptr q 0) (e2 : a.eval (.tmp y) = c.V) (hq : UkAt w q z s t)
    (k : wpList Tryz.prog ops Q rest (a.put o.dst undef) (w.setCells q 0 c.cells.toList)) : wpList Tryz.prog ops Q (o :: rest) a w :=
  wpList_store_mid hgd 24 (.tmp x) (.tmp y) ho q 0 c.cells e1 e2 (fun j hj => ⟨by
    rw [c.size] at hj
    have hz : 0 + j < (z.cells s t).size := by rw [z.size]; omega
    rw [At.cell hq, Array.getElem?_eq_getElem hz]; rfl, At.frozen hq _⟩) (size24 c) c.one k
set_option maxRecDepth 100000 in
set_option maxHeartbeats 1600000 in
theorem newU_any (c : Cfg) (w : World) : Calls Tryz.prog 7 #[c.V] w (UAns w (newU c)) := by
  have HN2 := Lib.hid (new2 w c.cells Z26 24 36)
  have CG := Lib.hid (fun W => good_any c W)
  cases hok : okc c
  · rw [hok] at CG
    rw [show newU c = zu from if_neg (by rw [hok]; decide)]
    clear hok
    go_enter Tryz.func7, Tryz.ntmps7
    go_upto_region 1 with fail
    obtain ⟨W1, hW1⟩ : ∃ W1, (w.alloc (.cells c.cells 24)).alloc (.cells Z26 36) = W1 := ⟨_, rfl⟩
    rw [hW1] at HN2 ⊢; clear hW1
    have HT := Lib.hid (VSt.new HN2.out.1 HN2.out.2.1 HN2.out.2.2 (Nat.le_succ _))
    clear HN2
    go_upto_region 2 with (first | ((with_reducible apply wpList_build_zu); exact rfl; exact rfl) | ((with_reducible apply wpList_store_unew (c := zu) (s := s0) (t := s0)); exact rfl; exact rfl; exact rfl; exact rfl))
    obtain ⟨W, hW⟩ : ∃ W, W1.alloc (.cells (zu.cells s0 s0) 36) = W := ⟨_, rfl⟩
    rw [hW] at HT ⊢; clear hW
    generalize W1.heap.size = t at HT ⊢
    generalize hp : w.heap.size = p at *
    have HP := Lib.hid hp; clear hp
    have HC := Lib.hid HT.out.cat
    go_wp2_with ((with_reducible apply wpList_load_cat (h := HC.out)); exact rfl; exact rfl; exact rfl)
    refine (CG.out _).mono ?_
    rintro e w1 ⟨rfl, hb⟩
    have HT1 := Lib.hid (HT.out.step hb); clear hb HC HT
    have HK := Lib.hid HT1.out.bk; have HQ := Lib.hid HT1.out.ans
    go_wp2_with (first | ((with_reducible apply wpList_load_uk (h := HK.out)); exact rfl; exact rfl; exact rfl) | ((with_reducible apply wpList_store_uk (b := zu) (s := s0) (t := s0) (hq := HQ.out)); exact rfl; exact rfl; exact rfl; exact rfl))
    obtain rfl := HP.out
    exact bodyPost_ret (results_u1 Tryz.results7 rfl (At.setRow HQ.out _)) rfl ⟨s0, s0, rfl, UAt.zero _, setRow_below HT1.out.bel HT1.out.lo.1 _⟩
  · rw [hok] at CG
    rw [show newU c = newUk c (c.get 1).toNat from if_pos hok]
    have h1 : lo 1 ≤ c.get 1 ∧ c.get 1 ≤ hi 1 := ok_at hok (by decide)
    have h1 : (1 : Int) ≤ c.get 1 ∧ c.get 1 ≤ 4 := h1
    obtain ⟨n, hn, hn4⟩ : ∃ n : Nat, c.get 1 = (n : Int) ∧ n ≤ 4 := ⟨(c.get 1).toNat, by omega, by omega⟩
    have et : (c.get 1).toNat = n := by omega
    rw [et]
    have HOK := Lib.hid hok; have HN := Lib.hid hn; have HN4 := Lib.hid hn4
    clear hok h1 hn et hn4
    go_enter Tryz.func7, Tryz.ntmps7
    go_upto_region 1 with fail
    obtain ⟨W1, hW1⟩ : ∃ W1, (w.alloc (.cells c.cells 24)).alloc (.cells Z26 36) = W1 := ⟨_, rfl⟩
    rw [hW1] at HN2 ⊢; clear hW1
    have HT := Lib.hid (VSt.new HN2.out.1 HN2.out.2.1 HN2.out.2.2 (Nat.le_succ _))
    clear HN2
    go_upto_region 2 with (first | ((with_reducible apply wpList_build_zu); exact rfl; exact rfl) | ((with_reducible apply wpList_store_unew (c := zu) (s := s0) (t := s0)); exact rfl; exact rfl; exact rfl; exact rfl))
    obtain ⟨W, hW⟩ : ∃ W, W1.alloc (.cells (zu.cells s0 s0) 36) = W := ⟨_, rfl⟩
    rw [hW] at HT ⊢; clear hW
    generalize W1.heap.size = t at HT ⊢
    generalize w.heap.size + 1 = q at *
    have hgx : ∃ g, w.heap.size = g := ⟨_, rfl⟩
    obtain ⟨g, hg⟩ := hgx
    rw [hg] at HT ⊢
    have HGX := Lib.hid hg; clear hg
    have HC := Lib.hid HT.out.cat
    go_wp2_with ((with_reducible apply wpList_load_cat (h := HC.out)); exact rfl; exact rfl; exact rfl)
    refine (CG.out _).mono ?_
    rintro e w1 ⟨rfl, hb⟩
    have HT1 := Lib.hid (HT.out.step hb); clear hb HC HT
    have HC := Lib.hid HT1.out.cat; have HK := Lib.hid HT1.out.bk
    go_upto_region 5 with (first | ((with_reducible apply wpList_load_cat (h := HC.out)); exact rfl; exact rfl; exact rfl) | ((with_reducible apply wpList_store_conf (c := c) (hq := HK.out)); exact rfl; exact rfl; exact rfl; exact rfl))
    have HT2 := Lib.hid HT1.out.conf; clear HT1 HC HK
    obtain ⟨w2, hw2⟩ : ∃ w2, w1.setCells t 0 c.cells.toList = w2 := ⟨_, rfl⟩
    rw [hw2] at HT2 ⊢; clear hw2
    have k18 := UkAt.k18 HT2.out.bk; have f18 := At.frozen HT2.out.bk 18
    go_upto_region 6 with fail
    have HT3 : Hid (VSt w (w2.setCell ⟨t, 18, none⟩ (.bool true)) g q t c (newUk c 0)) := Lib.hid (HT2.out.one (UkAt.setB HT2.out.bk true))
    clear HT2 k18 f18
    obtain ⟨w3, hw3⟩ : ∃ w3, w2.setCell ⟨t, 18, none⟩ (.bool true) = w3 := ⟨_, rfl⟩
    rw [hw3] at HT3 ⊢; clear hw3
    go_wp2_with fail
    go_loopg [4] n (fun gh s4 wx => ∃ j : Nat, j ≤ n ∧ gh = n - j ∧ s4 = .int .i64 (j : Int) ∧ VSt w wx g q t c (newUk c j))
    case atStart => exact ⟨0, Nat.zero_le _, rfl, rfl, HT3.out⟩
    case round =>
      obtain ⟨j, hj, hg, rfl, hst⟩ := hrel
      have HG := Lib.hid hg; clear hg HT3
      have kc := CAt.get hst.cat (k := 1) (by decide)
      rw [HN.out] at kc
      by_cases hlt : j < n
      · have hj4 : j < 4 := by have := HN4.out; omega
        have b3 : (j : Int) < (n : Int) := by omega
        have b4 : (0 : Int) ≤ (j : Int) := by omega
        have b5 : (j : Int) < 4 := by omega
        have kM := UkAt.kM hst.bk hj4; have fM := At.frozen hst.bk (22 + j)
        have HST := Lib.hid (hst.setM hj4); clear hst
        go_wp2_with fail
        go_roundg (n - (j + 1))
        case measure => have := HG.out; omega
        case rel => exact ⟨j + 1, by omega, rfl, rfl, HST.out⟩
      · obtain rfl : j = n := by omega
        have HST := Lib.hid hst; clear hst
        have HQ := Lib.hid HST.out.ans; have HK := Lib.hid HST.out.bk
        go_wp2_with (first | ((with_reducible apply wpList_load_uk (h := HK.out)); exact rfl; exact rfl; exact rfl) | ((with_reducible apply wpList_store_uk (b := newUk c j) (s := s0) (t := s0) (hq := HQ.out)); exact rfl; exact rfl; exact rfl; exact rfl))
        exact bodyPost_ret (results_u1 Tryz.results7 rfl (At.setRow HQ.out _)) rfl ⟨s0, s0, rfl, UAt.none _ _ rfl rfl, setRow_below HST.out.bel HST.out.lo.1 _⟩
/-- Find -/
def seekK (k : Int) (l : List K) : Option K := l.find? (fun q => q.id == k)
def findU (u : U) (k : Int) : Option K := match seekK k u.live with
  | some x => some x
  | none => seekK k u.done
theorem seekK_hit {k : Int} : ∀ {l : List K} {j : Nat} {x : K}, l[j]? = some x → x.id = k → (∀ i, i < j → ∀ y, l[i]? = some y → y.id ≠ k) → seekK k l = some x
  | [], j, x, h, _, _ => by simp at h
  | y :: l, 0, x, h, hk, _ => by
    have : y = x := by simpa using h
    subst this
    simp [seekK, List.find?, hk]
  | y :: l, j + 1, x, h, hk, hn => by
    have h0 := hn 0 (by omega) y rfl
    have ih := seekK_hit (l := l) (j := j) (x := x) (by simpa using h) hk (fun i hi z hz => hn (i + 1) (by omega) z (by simpa using hz))
    unfold seekK at ih ⊢
    rw [List.find?_cons_of_neg (by simpa using h0)]
    exact ih
theorem seekK_none {k : Int} {l : List K} (h : ∀ (i : Nat) (y : K), l[i]? = some y → y.id ≠ k) : seekK k l = none := by
  unfold seekK
  rw [List.find?_eq_none.2 (fun y hy => by
    obtain ⟨i, hi, rfl⟩ := List.getElem_of_mem hy
    simpa using h i _ (List.getElem?_eq_getElem hi))]
structure QSt (w wx : World) (g q : Nat) (u : U) (s t : Sl) : Prop where
  bel : Below w.heap.size w wx
  bk : UkAt wx g u s t
  rows : UAt wx u s t
  ans : KAt wx q zk
  lo : w.heap.size ≤ q
theorem kid_at {w : World} {b off : Nat} {x : K} (h : w.rangeAt b off x.cells.toList) : w.cell? ⟨b, off, none⟩ = some (.int .i64 x.id) := h 0 _ rfl
set_option maxRecDepth 100000 in
set_option maxHeartbeats 1600000 in
theorem findU_any {u : U} {s t : Sl} (k : Int) {w : World} (ha : UAt w u s t) (hl : u.live.length ≤ 70000) (hd : u.done.length ≤ 70000) : Calls Tryz.prog 18 #[u.V s t, .int .i64 k] w (FPost w (findU u k)) := by
  have H0 := new2 w (u.cells s t) zk.cells 36 40
  have HST : Hid (QSt w ((w.alloc (.cells (u.cells s t) 36)).alloc (.cells zk.cells 40)) w.heap.size (w.heap.size + 1) u s t) := Lib.hid ⟨H0.1, H0.2.1, ha.step H0.1, H0.2.2, by omega⟩
  obtain ⟨n6, hn6⟩ : ∃ n, u.live.length = n := ⟨_, rfl⟩
  obtain ⟨n7, hn7⟩ : ∃ n, u.done.length = n := ⟨_, rfl⟩
  rw [hn6] at hl; rw [hn7] at hd
  have HNN6 := Lib.hid hn6; have HNN7 := Lib.hid hn7; have HLE6 := Lib.hid hl; have HLE7 := Lib.hid hd
  clear H0 ha hn6 hn7 hl hd
  go_enter Tryz.func18, Tryz.ntmps18
  go_upto_region 1 with fail
  obtain ⟨W, hW⟩ : ∃ W, (w.alloc (.cells (u.cells s t) 36)).alloc (.cells Z8 40) = W := ⟨_, rfl⟩
  have hZ : (w.alloc (.cells (u.cells s t) 36)).alloc (.cells zk.cells 40) = W := hW
  rw [hZ] at HST; rw [hW]; clear hW hZ
  generalize w.heap.size + 1 = q at *
  obtain ⟨g, hg⟩ : ∃ g, w.heap.size = g := ⟨_, rfl⟩
  rw [hg] at HST ⊢; clear hg
  go_wp2_with fail
  go_loopg [6] n6 (fun gh sc wx => ∃ j : Nat, j ≤ n6 ∧ gh = n6 - j ∧ sc = .int .i64 (j : Int) ∧ QSt w wx g q u s t ∧ ∀ i, i < j → ∀ y, u.live[i]? = some y → y.id ≠ k)
  case atStart => exact ⟨0, Nat.zero_le _, rfl, rfl, HST.out, fun i hi => absurd hi (by omega)⟩
  case round =>
    obtain ⟨j, hj, hg, rfl, hst, hno⟩ := hrel
    have HG := Lib.hid hg; have HNO := Lib.hid hno; clear hg hno HST
    have kl := UkAt.k20 hst.bk
    rw [HNN6.out] at kl
    by_cases hlt : j < n6
    · have hj2 : j < u.live.length := by rw [HNN6.out]; exact hlt
      obtain ⟨b, off, hs, hb, hr⟩ := rd_cell hst.rows.1.1 hj2
      have hpx : u.live[j]? = some u.live[j] := List.getElem?_eq_getElem hj2
      generalize u.live[j] = x at *
      obtain ⟨s1, s2⟩ := s
      obtain rfl : s1 = some ⟨b, off, none⟩ := hs
      have kl2 : wr.cell? ⟨g, 20, none⟩ = some (.slice (some ⟨b, off, none⟩) n6 s2) := kl
      clear kl
      have HPX := Lib.hid hpx; have HR := Lib.hid hr
      have kid := kid_at hr
      have b3 : (j : Int) < (n6 : Int) := by omega
      have b4 : (0 : Int) ≤ (j : Int) := by omega
      clear hr hpx hb
      have HST := Lib.hid hst; clear hst
      have HQ := Lib.hid HST.out.ans
      by_cases hk : x.id = k
      · have d1 : decide (x.id = k) = true := by simpa using hk
        have d2 : (x.id == k) = true := by simpa using hk
        have HK := Lib.hid hk; clear hk
        go_wp2_with (first | ((with_reducible apply wpList_load_kpart (c := x) (h := HR.out)); exact rfl; exact rfl; exact rfl) | ((with_reducible apply wpList_store_kat (c := x) (hq := HQ.out)); exact rfl; exact rfl; exact rfl; exact rfl))
        refine bodyPost_ret (results_pair Tryz.results18 rfl rfl (KAt.setRow HQ.out x)) rfl ⟨?_, setRow_below HST.out.bel HST.out.lo _⟩
        rw [show findU u k = some x by unfold findU; rw [seekK_hit HPX.out HK.out HNO.out]]; rfl
      · have d1 : decide (x.id = k) = false := by simpa using hk
        have d2 : (x.id == k) = false := by simpa using hk
        have HK := Lib.hid hk; clear hk
        go_wp2_with fail
        go_roundg (n6 - (j + 1))
        case measure => have := HG.out; omega
        case rel => exact ⟨j + 1, by omega, rfl, (by have := HLE6.out; rw [IntWalk.wrap64_in _ (by omega)]; rfl), HST.out, fun i hi y hy => by
          by_cases hij : i < j
          · exact HNO.out i hij y hy
          · obtain rfl : i = j := by omega
            rw [HPX.out] at hy
            injection hy with hy
            subst hy
            exact HK.out⟩
    · obtain rfl : j = n6 := by omega
      have HST := Lib.hid hst; clear hst
      have HN1 : Hid (seekK k u.live = none) := Lib.hid (seekK_none (fun i y hy => HNO.out i (by have := (List.getElem?_eq_some_iff.1 hy).1; have := HNN6.out; omega) y hy))
      clear HNO HG
      go_wp2_with fail
      go_loopg [7] n7 (fun gh sc wx => ∃ j : Nat, j ≤ n7 ∧ gh = n7 - j ∧ sc = .int .i64 (j : Int) ∧ QSt w wx g q u s t ∧ ∀ i, i < j → ∀ y, u.done[i]? = some y → y.id ≠ k)
      case atStart => exact ⟨0, Nat.zero_le _, rfl, rfl, HST.out, fun i hi => absurd hi (by omega)⟩
      case round =>
        obtain ⟨j, hj, hg, rfl, hst, hno⟩ := hrel
        have HG := Lib.hid hg; have HNO := Lib.hid hno; clear hg hno HST
        have kl := UkAt.k21 hst.bk
        rw [HNN7.out] at kl
        by_cases hlt : j < n7
        · have hj2 : j < u.done.length := by rw [HNN7.out]; exact hlt
          obtain ⟨b, off, hs, hb, hr⟩ := rd_cell hst.rows.2.1 hj2
          have hpx : u.done[j]? = some u.done[j] := List.getElem?_eq_getElem hj2
          generalize u.done[j] = x at *
          obtain ⟨t1, t2⟩ := t
          obtain rfl : t1 = some ⟨b, off, none⟩ := hs
          have kl2 : wr.cell? ⟨g, 21, none⟩ = some (.slice (some ⟨b, off, none⟩) n7 t2) := kl
          clear kl
          have HPX := Lib.hid hpx; have HR := Lib.hid hr
          have kid := kid_at hr
          have b3 : (j : Int) < (n7 : Int) := by omega
          have b4 : (0 : Int) ≤ (j : Int) := by omega
          clear hr hpx hb
          have HST := Lib.hid hst; clear hst
          have HQ := Lib.hid HST.out.ans
          by_cases hk : x.id = k
          · have d1 : decide (x.id = k) = true := by simpa using hk
            have d2 : (x.id == k) = true := by simpa using hk
            have HK := Lib.hid hk; clear hk
            go_wp2_with (first | ((with_reducible apply wpList_load_kpart (c := x) (h := HR.out)); exact rfl; exact rfl; exact rfl) | ((with_reducible apply wpList_store_kat (c := x) (hq := HQ.out)); exact rfl; exact rfl; exact rfl; exact rfl))
            refine bodyPost_ret (results_pair Tryz.results18 rfl rfl (KAt.setRow HQ.out x)) rfl ⟨?_, setRow_below HST.out.bel HST.out.lo _⟩
            rw [show findU u k = some x by unfold findU; rw [HN1.out]; exact seekK_hit HPX.out HK.out HNO.out]; rfl
          · have d1 : decide (x.id = k) = false := by simpa using hk
            have d2 : (x.id == k) = false := by simpa using hk
            have HK := Lib.hid hk; clear hk
            go_wp2_with fail
            go_roundg (n7 - (j + 1))
            case measure => have := HG.out; omega
            case rel => exact ⟨j + 1, by omega, rfl, (by have := HLE7.out; rw [IntWalk.wrap64_in _ (by omega)]; rfl), HST.out, fun i hi y hy => by
              by_cases hij : i < j
              · exact HNO.out i hij y hy
              · obtain rfl : i = j := by omega
                rw [HPX.out] at hy
                injection hy with hy
                subst hy
                exact HK.out⟩
        · obtain rfl : j = n7 := by omega
          have HST := Lib.hid hst; clear hst
          have HQ := Lib.hid HST.out.ans
          go_wp2_with (first | ((with_reducible apply wpList_build_zk); exact rfl; exact rfl) | ((with_reducible apply wpList_store_kat (c := zk) (hq := HQ.out)); exact rfl; exact rfl; exact rfl; exact rfl))
          refine bodyPost_ret (results_pair Tryz.results18 rfl rfl (KAt.setRow HQ.out zk)) rfl ⟨?_, setRow_below HST.out.bel HST.out.lo _⟩
          rw [show findU u k = none by unfold findU; rw [HN1.out]; exact seekK_none (fun i y hy => HNO.out i (by have := (List.getElem?_eq_some_iff.1 hy).1; have := HNN7.out; omega) y hy)]; rfl
end Go.Proofs.YtodacdooooeofaaGreat
