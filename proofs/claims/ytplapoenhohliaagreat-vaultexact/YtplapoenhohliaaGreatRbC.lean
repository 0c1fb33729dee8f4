import Derived.Test.YtplapoenhohliaaGreatRbA
import Derived.Test.YtplapoenhohliaaGreatOrder7
namespace Go.Proofs.YtplapoenhohliaaGreat
open Go.RowKit Go.Lib
open Sh.Plain (KV get put del Rise)
set_option linter.unusedVariables false
set_option linter.unusedSimpArgs false
def newUk (c : Cfg) (j : Nat) : U := ⟨c, true, 0, [], [], modesTo j, modesTo_len j⟩
def newU (c : Cfg) : U := if okc c = true then newUk c (c.get 1).toNat else zu
def setL (cs : Array Value) : Nat → List Value → Array Value
 | _, [] => cs
 | o, v :: r => setL (cs.setIfInBounds o v) (o + 1) r
theorem At.setCellsL {g : Nat} {t : TypeId} : ∀ {vs : List Value} {o : Nat} {cs : Array Value} {w : World}, At w g t cs → At (w.setCells g o vs) g t (setL cs o vs)
 | [], o, cs, w, h => h
 | v :: r, o, cs, w, h => by
  have h2 := At.setCellsL (vs := r) (o := o + 1) (At.set h o v)
  exact h2
theorem setL_conf (c : Cfg) : setL (zu.cells s0 s0) 0 c.cells.toList = (⟨c, false, 0, [], [], [0, 0, 0, 0], rfl⟩ : U).cells s0 s0 := by
 obtain ⟨n, s, hl⟩ := c
 match n, hl with
 | [a0, a1, a2, a3, a4, a5, a6, a7, a8, a9, a10, a11, a12, a13, a14, a15, a16], _ => show _ = _; kernel_rfl
theorem At.farCells {g q : Nat} {t : TypeId} {cs : Array Value} (hne : g ≠ q) : ∀ {vs : List Value} {o : Nat} {w : World}, At w g t cs → At (w.setCells q o vs) g t cs
 | [], o, w, h => h
 | v :: r, o, w, h => by
  have h2 := At.farCells hne (vs := r) (o := o + 1) (At.far (p := ⟨q, o, none⟩) h hne v)
  exact h2
theorem below_setCells {B q : Nat} {a : World} (hq : B ≤ q) : ∀ {vs : List Value} {o : Nat} {w : World}, Below B a w → Below B a (w.setCells q o vs)
 | [], o, w, h => h
 | v :: r, o, w, h => by
  have h2 := below_setCells hq (vs := r) (o := o + 1) (h.setCell (p := ⟨q, o, none⟩) hq v)
  exact h2
structure VSt (w W : World) (g q t : Nat) (c : Cfg) (b : U) : Prop where
 bel : Below w.heap.size w W
 cat : CAt W g c
 ans : UkAt W q zu s0 s0
 bk : UkAt W t b s0 s0
 lo : w.heap.size ≤ q ∧ w.heap.size ≤ t
 ne : q ≠ t
theorem VSt.step {w W W' : World} {g q t : Nat} {c : Cfg} {b : U} (h : VSt w W g q t c b) (hb : Below W.heap.size W W') : VSt w W' g q t c b := ⟨h.bel.trans (hb.mono h.bel.size), h.cat.step hb, At.step h.ans hb, At.step h.bk hb, h.lo, h.ne⟩
theorem VSt.new {w W : World} {g q : Nat} {c : Cfg} (h1 : Below w.heap.size w W) (h2 : CAt W g c) (h3 : UkAt W q zu s0 s0) (lo : w.heap.size ≤ q) : VSt w (W.alloc (.cells (zu.cells s0 s0) 65)) g q W.heap.size c zu := by
 have hb := below_new W (.cells (zu.cells s0 s0) 65)
 exact ⟨h1.trans (hb.mono h1.size), h2.step hb, At.step h3 hb, UkAt.new W zu s0 s0, ⟨lo, h1.size⟩, Nat.ne_of_lt (At.lt h3)⟩
theorem VSt.put {w W W' : World} {g q t : Nat} {c : Cfg} {b b' : U} (h : VSt w W g q t c b) (h1 : Below w.heap.size w W') (h2 : CAt W' g c) (h3 : UkAt W' q zu s0 s0) (h4 : UkAt W' t b' s0 s0) : VSt w W' g q t c b' := ⟨h1, h2, h3, h4, h.lo, h.ne⟩
theorem VSt.conf {w W : World} {g q t : Nat} {c : Cfg} (h : VSt w W g q t c zu) : VSt w (W.setCells t 0 c.cells.toList) g q t c ⟨c, false, 0, [], [], [0, 0, 0, 0], rfl⟩ := by
 refine h.put (below_setCells h.lo.2 h.bel) (At.farCells (At.ne h.cat h.bk (by decide)) h.cat) (At.farCells h.ne h.ans) ?_
 have := At.setCellsL (vs := c.cells.toList) (o := 0) h.bk
 rwa [setL_conf] at this
theorem VSt.one {w W : World} {g q t : Nat} {c : Cfg} {b b' : U} {i : Nat} {v : Value} (h : VSt w W g q t c b) (hb : UkAt (W.setCell ⟨t, i, none⟩ v) t b' s0 s0) : VSt w (W.setCell ⟨t, i, none⟩ v) g q t c b' :=
 h.put (h.bel.setCell h.lo.2 _) (At.far h.cat (At.ne h.cat h.bk (by decide)) _) (At.far h.ans h.ne _) hb
theorem VSt.setM {w W : World} {g q t j : Nat} {c : Cfg} (h : VSt w W g q t c (newUk c j)) (hj : j < 4) : VSt w (W.setCell ⟨t, 22 + j, none⟩ (.int .i64 1)) g q t c (newUk c (j + 1)) := by
 refine h.one ?_
 have hm := UkAt.setM h.bk hj 1
 have e : ({ newUk c j with m := (newUk c j).m.set j 1, ml := by rw [List.length_set]; exact (newUk c j).ml } : U) = newUk c (j + 1) := by
  simp only [newUk, modesTo_set hj]
 rw [e] at hm
 exact hm
theorem UAt.none (w : World) (u : U) (h1 : u.live = []) (h2 : u.done = []) : UAt w u s0 s0 := by
 unfold UAt
 rw [h1, h2]
 exact ⟨RdF.nil w, RdF.nil w⟩
theorem wpList_store_conf {ops : Array Oper} {rest : List Oper} {o : Oper} {a : Act} {w : World} {Q : Exit → Act → World → Prop} (x y : Tmp) (ho : o.op = .store 24 (.tmp x) (.tmp y)) (hgd : o.guard = none) {q : Nat} {z : U} {s t : Sl} {c : Cfg} (e1 : a.eval (.tmp x) = ptr q 0) (e2 : a.eval (.tmp y) = c.V) (hq : UkAt w q z s t)
  (k : wpList Tryz.prog ops Q rest (a.put o.dst undef) (w.setCells q 0 c.cells.toList)) : wpList Tryz.prog ops Q (o :: rest) a w :=
 wpList_store_mid hgd 24 (.tmp x) (.tmp y) ho q 0 c.cells e1 e2 (fun j hj => ⟨by
  rw [c.size] at hj
  have hz : 0 + j < (z.cells s t).size := by rw [z.size]; omega
  rw [At.cell hq, Array.getElem?_eq_getElem hz]; rfl, At.frozen hq _⟩) (size24 c) c.one k
set_option maxRecDepth 100000 in
set_option maxHeartbeats 1600000 in
theorem newU_any (c : Cfg) (w : World) : Calls Tryz.prog 31 #[c.V] w (UAns w (newU c)) := by
 have HN2 := Lib.hid (new2 w c.cells Z26 24 65)
 have CG := Lib.hid (fun W => good_any c W)
 cases hok : okc c
 ·rw [hok] at CG
  rw [show newU c = zu from if_neg (by rw [hok]; decide)]
  clear hok
  go_enter Tryz.func31, Tryz.ntmps31
  go_upto_region 1 with fail
  obtain ⟨W1, hW1⟩ : ∃ W1, (w.alloc (.cells c.cells 24)).alloc (.cells Z26 65) = W1 := ⟨_, rfl⟩
  rw [hW1] at HN2 ⊢; clear hW1
  have HT := Lib.hid (VSt.new HN2.out.1 HN2.out.2.1 HN2.out.2.2 (Nat.le_succ _))
  clear HN2
  go_upto_region 2 with (first | ((with_reducible apply wpList_build_zu); exact rfl; exact rfl) | ((with_reducible apply wpList_store_unew (c := zu) (s := s0) (t := s0)); exact rfl; exact rfl; exact rfl; exact rfl))
  obtain ⟨W, hW⟩ : ∃ W, W1.alloc (.cells (zu.cells s0 s0) 65) = W := ⟨_, rfl⟩
  rw [hW] at HT ⊢; clear hW
  generalize W1.heap.size = t at HT ⊢
  generalize hp : w.heap.size = p at *
  have HP := Lib.hid hp; clear hp
  have HC := Lib.hid HT.out.cat
  go_wp2_with ((with_reducible apply wpList_load_cat (h := HC.out)); exact rfl; exact rfl; exact rfl)
  refine (CG.out _).mono ?_
  rintro e w1 ⟨rfl, hb⟩
  have HT1 := Lib.hid (HT.out.step hb); clear hb HC HT
  have HK := Lib.hid HT1.out.bk; have HQ := Lib.hid HT1.out.ans
  go_wp2_with (first | ((with_reducible apply wpList_load_uk (h := HK.out)); exact rfl; exact rfl; exact rfl) | ((with_reducible apply wpList_store_uk (b := zu) (s := s0) (t := s0) (hq := HQ.out)); exact rfl; exact rfl; exact rfl; exact rfl))
  obtain rfl := HP.out
  exact bodyPost_ret (results_u1 Tryz.results31 rfl (At.setRow HQ.out _)) rfl ⟨s0, s0, rfl, UAt.zero _, setRow_below HT1.out.bel HT1.out.lo.1 _⟩
 ·rw [hok] at CG
  rw [show newU c = newUk c (c.get 1).toNat from if_pos hok]
  have h1 : lo 1 ≤ c.get 1 ∧ c.get 1 ≤ hi 1 := ok_at hok (by decide)
  have h1 : (1 : Int) ≤ c.get 1 ∧ c.get 1 ≤ 4 := h1
  obtain ⟨n, hn, hn4⟩ : ∃ n : Nat, c.get 1 = (n : Int) ∧ n ≤ 4 := ⟨(c.get 1).toNat, by omega, by omega⟩
  have et : (c.get 1).toNat = n := by omega
  rw [et]
  have HOK := Lib.hid hok; have HN := Lib.hid hn; have HN4 := Lib.hid hn4
  clear hok h1 hn et hn4
  go_enter Tryz.func31, Tryz.ntmps31
  go_upto_region 1 with fail
  obtain ⟨W1, hW1⟩ : ∃ W1, (w.alloc (.cells c.cells 24)).alloc (.cells Z26 65) = W1 := ⟨_, rfl⟩
  rw [hW1] at HN2 ⊢; clear hW1
  have HT := Lib.hid (VSt.new HN2.out.1 HN2.out.2.1 HN2.out.2.2 (Nat.le_succ _))
  clear HN2
  go_upto_region 2 with (first | ((with_reducible apply wpList_build_zu); exact rfl; exact rfl) | ((with_reducible apply wpList_store_unew (c := zu) (s := s0) (t := s0)); exact rfl; exact rfl; exact rfl; exact rfl))
  obtain ⟨W, hW⟩ : ∃ W, W1.alloc (.cells (zu.cells s0 s0) 65) = W := ⟨_, rfl⟩
  rw [hW] at HT ⊢; clear hW
  generalize W1.heap.size = t at HT ⊢
  generalize w.heap.size + 1 = q at *
  have hgx : ∃ g, w.heap.size = g := ⟨_, rfl⟩
  obtain ⟨g, hg⟩ := hgx
  rw [hg] at HT ⊢
  have HGX := Lib.hid hg; clear hg
  have HC := Lib.hid HT.out.cat
  go_wp2_with ((with_reducible apply wpList_load_cat (h := HC.out)); exact rfl; exact rfl; exact rfl)
  refine (CG.out _).mono ?_
  rintro e w1 ⟨rfl, hb⟩
  have HT1 := Lib.hid (HT.out.step hb); clear hb HC HT
  have HC := Lib.hid HT1.out.cat; have HK := Lib.hid HT1.out.bk
  go_upto_region 5 with (first | ((with_reducible apply wpList_load_cat (h := HC.out)); exact rfl; exact rfl; exact rfl) | ((with_reducible apply wpList_store_conf (c := c) (hq := HK.out)); exact rfl; exact rfl; exact rfl; exact rfl))
  have HT2 := Lib.hid HT1.out.conf; clear HT1 HC HK
  obtain ⟨w2, hw2⟩ : ∃ w2, w1.setCells t 0 c.cells.toList = w2 := ⟨_, rfl⟩
  rw [hw2] at HT2 ⊢; clear hw2
  have k18 := UkAt.k18 HT2.out.bk; have f18 := At.frozen HT2.out.bk 18
  go_upto_region 6 with fail
  have HT3 : Hid (VSt w (w2.setCell ⟨t, 18, none⟩ (.bool true)) g q t c (newUk c 0)) := Lib.hid (HT2.out.one (UkAt.setB HT2.out.bk true))
  clear HT2 k18 f18
  obtain ⟨w3, hw3⟩ : ∃ w3, w2.setCell ⟨t, 18, none⟩ (.bool true) = w3 := ⟨_, rfl⟩
  rw [hw3] at HT3 ⊢; clear hw3
  go_wp2_with fail
  go_loopg [4] n (fun gh s4 wx => ∃ j : Nat, j ≤ n ∧ gh = n - j ∧ s4 = .int .i64 (j : Int) ∧ VSt w wx g q t c (newUk c j))
  case atStart => exact ⟨0, Nat.zero_le _, rfl, rfl, HT3.out⟩
  case round =>
   obtain ⟨j, hj, hg, rfl, hst⟩ := hrel
   have HG := Lib.hid hg; clear hg HT3
   have kc := CAt.get hst.cat (k := 1) (by decide)
   rw [HN.out] at kc
   by_cases hlt : j < n
   ·have hj4 : j < 4 := by have := HN4.out; omega
    have b3 : (j : Int) < (n : Int) := by omega
    have b4 : (0 : Int) ≤ (j : Int) := by omega
    have b5 : (j : Int) < 4 := by omega
    have kM := UkAt.kM hst.bk hj4; have fM := At.frozen hst.bk (22 + j)
    have HST := Lib.hid (hst.setM hj4); clear hst
    go_wp2_with fail
    go_roundg (n - (j + 1))
    case measure => have := HG.out; omega
    case rel => exact ⟨j + 1, by omega, rfl, rfl, HST.out⟩
   ·obtain rfl : j = n := by omega
    have HST := Lib.hid hst; clear hst
    have HQ := Lib.hid HST.out.ans; have HK := Lib.hid HST.out.bk
    go_wp2_with (first | ((with_reducible apply wpList_load_uk (h := HK.out)); exact rfl; exact rfl; exact rfl) | ((with_reducible apply wpList_store_uk (b := newUk c j) (s := s0) (t := s0) (hq := HQ.out)); exact rfl; exact rfl; exact rfl; exact rfl))
    exact bodyPost_ret (results_u1 Tryz.results31 rfl (At.setRow HQ.out _)) rfl ⟨s0, s0, rfl, UAt.none _ _ rfl rfl, setRow_below HST.out.bel HST.out.lo.1 _⟩
def seekK (k : Int) (l : List K) : Option K := l.find? (fun q => q.id == k)
def findU (u : U) (k : Int) : Option K := match seekK k u.live with
 | some x => some x
 | none => seekK k u.done
theorem seekK_hit {k : Int} : ∀ {l : List K} {j : Nat} {x : K}, l[j]? = some x → x.id = k → (∀ i, i < j → ∀ y, l[i]? = some y → y.id ≠ k) → seekK k l = some x
 | [], j, x, h, _, _ => by simp at h
 | y :: l, 0, x, h, hk, _ => by
  have : y = x := by simpa using h
  subst this
  simp [seekK, List.find?, hk]
 | y :: l, j + 1, x, h, hk, hn => by
  have h0 := hn 0 (by omega) y rfl
  have ih := seekK_hit (l := l) (j := j) (x := x) (by simpa using h) hk (fun i hi z hz => hn (i + 1) (by omega) z (by simpa using hz))
  unfold seekK at ih ⊢
  rw [List.find?_cons_of_neg (by simpa using h0)]
  exact ih
theorem seekK_none {k : Int} {l : List K} (h : ∀ (i : Nat) (y : K), l[i]? = some y → y.id ≠ k) : seekK k l = none := by
 unfold seekK
 rw [List.find?_eq_none.2 (fun y hy => by
  obtain ⟨i, hi, rfl⟩ := List.getElem_of_mem hy
  simpa using h i _ (List.getElem?_eq_getElem hi))]
structure QSt (w wx : World) (g q : Nat) (u : U) (s t : Sl) : Prop where
 bel : Below w.heap.size w wx
 bk : UkAt wx g u s t
 rows : UAt wx u s t
 ans : KAt wx q zk
 lo : w.heap.size ≤ q
theorem kid_at {w : World} {b off : Nat} {x : K} (h : w.rangeAt b off x.cells.toList) : w.cell? ⟨b, off, none⟩ = some (.int .i64 x.id) := h 0 _ rfl
end Go.Proofs.YtplapoenhohliaaGreat
namespace Go.Proofs.YtplapoenhohliaaGreat
open Go.RowKit Go.Lib
open Sh.Plain (KV get put del Rise)
set_option linter.unusedVariables false
set_option linter.unusedSimpArgs false
def stepL (x y : K) : List K := if y.id ≠ x.id then [y] else if x.st < 4 then [x] else []
def liveN (u : U) (x : K) : List K := u.live.flatMap (stepL x)
def wasN (u : U) (x : K) : Bool := u.live.any (fun y => y.id == x.id)
def doneN (u : U) (x : K) : List K := if u.c.get 3 < ((u.done ++ [x]).length : Int) then (u.done ++ [x]).tail else u.done ++ [x]
def nextU (u : U) (x : K) : U × Cg × Int :=
 if 3 < x.st then ({ u with live := liveN u x, done := doneN u x, ix := u.ix + 1 }, ⟨u.ix + 1, x, 0, 0⟩, 0)
 else if wasN u x = true then ({ u with live := liveN u x, ix := u.ix + 1 }, ⟨u.ix + 1, x, 0, 0⟩, 0)
 else if u.c.get 3 ≤ ((liveN u x).length : Int) then (zu, zg, 5)
 else ({ u with live := liveN u x ++ [x], ix := u.ix + 1 }, ⟨u.ix + 1, x, 0, 0⟩, 0)
theorem liveN_len (u : U) (x : K) : (liveN u x).length ≤ u.live.length := by
 unfold liveN
 generalize u.live = l
 induction l with
 | nil => simp
 | cons y l ih =>
  rw [List.flatMap_cons, List.length_append, List.length_cons]
  have : (stepL x y).length ≤ 1 := by
   unfold stepL
   by_cases h1 : y.id ≠ x.id
   ·rw [if_pos h1]; simp
   ·rw [if_neg h1]
    by_cases h2 : x.st < 4
    ·rw [if_pos h2]; simp
    ·rw [if_neg h2]; simp
  omega
structure Abv (B : Nat) (w w' : World) : Prop where
 size : w.heap.size ≤ w'.heap.size
 block : ∀ b, B ≤ b → w'.heap[b]? = w.heap[b]?
theorem Abv.refl (B : Nat) (w : World) : Abv B w w := ⟨Nat.le_refl _, fun _ _ => rfl⟩
theorem Abv.trans {B : Nat} {a b c : World} (h : Abv B a b) (k : Abv B b c) : Abv B a c := ⟨Nat.le_trans h.size k.size, fun i hi => (k.block i hi).trans (h.block i hi)⟩
theorem Abv.drew {B : Nat} {a b : World} (h : Abv B a b) : Abv B a b.drew := ⟨h.size, h.block⟩
theorem Abv.cell {B : Nat} {w : World} {p : Addr} (hp : p.block < B) (u : Value) : Abv B w (w.setCell p u) := ⟨by simp [World.setCell], fun b hb => Below.heap_setCell w p u b (by omega)⟩
theorem Abv.row {B q : Nat} {w : World} (hq : q < B) (cs : Array Value) : Abv B w (w.setRow q cs) := ⟨by simp [World.setRow], fun b hb => by
 unfold World.setRow
 simp only [Array.getElem?_modify]
 rw [if_neg (by omega)]⟩
def RdG (w : World) (B : Nat) (s : Sl) (xs : List K) : Prop := Sh.Rd Sh.eC w (s.v xs.length) xs ∧ ((s = s0 ∧ xs = []) ∨ ∃ b off cs, s.1 = some ⟨b, off, none⟩ ∧ B ≤ b ∧ At w b 46 cs)
theorem RdG.rdf {w : World} {B : Nat} {s : Sl} {xs : List K} (h : RdG w B s xs) : RdF w s xs := ⟨h.1, h.2.imp id (fun ⟨b, off, cs, e, _, ha⟩ => ⟨b, off, cs, e, ha⟩)⟩
theorem RdG.abv {w w' : World} {B : Nat} {s : Sl} {xs : List K} (h : RdG w B s xs) (ha : Abv B w w') : RdG w' B s xs := by
 refine ⟨?_, h.2.imp id (fun ⟨b, off, cs, e, hB, hat⟩ => ⟨b, off, cs, e, hB, (ha.block b hB).trans hat⟩)⟩
 obtain ⟨O, cap, e, hc, k⟩ := h.1
 refine ⟨O, cap, e, hc, fun i x hx => ?_⟩
 obtain ⟨b, off, e2, hb, k2⟩ := k i x hx
 refine ⟨b, off, e2, Nat.lt_of_lt_of_le hb ha.size, fun j u hu => ?_⟩
 have hB : B ≤ b := by
  rcases h.2 with ⟨_, h0⟩ | ⟨b', off', cs', e3, hB, hat⟩
  ·subst h0; simp at hx
  ·injection e with e _ _
   rw [e, e2] at e3
   injection e3 with e3
   injection e3 with e3 _
   omega
 have := k2 j u hu
 rw [← this]
 simp [World.cell?, ha.block b hB]
theorem own_at {w : World} {B : Nat} {v : Value} {xs : List K} (h : Sh.Own Sh.eC w B v xs) {g : Nat} (hg : v.ownBlock = some g) : ∃ cs, At w g 46 cs := by
 rcases h.2 with ⟨rfl, _⟩ | ⟨g', cap, cur, rfl, _, hh, _⟩
 ·simp [Value.ownBlock] at hg
 ·have : g' = g := by simpa [Value.ownBlock] using hg
  subst this
  exact ⟨cur, hh⟩
theorem RdG.of_own {w : World} {B : Nat} {v : Value} {xs : List K} (h : Sh.Own Sh.eC w B v xs) : ∃ s : Sl, v = s.v xs.length ∧ RdG w B s xs := by
 have hr := h.rd
 rcases h.form with ⟨rfl, rfl⟩ | ⟨g, cap, rfl, hc, hB, hlt⟩
 ·exact ⟨s0, rfl, hr, .inl ⟨rfl, rfl⟩⟩
 ·obtain ⟨cs, hat⟩ := own_at h rfl
  exact ⟨(some ⟨g, 0, none⟩, cap), rfl, hr, .inr ⟨g, 0, cs, rfl, hB, hat⟩⟩
theorem RdG.of_own2 {w : World} {B : Nat} {v : Value} {xs : List K} (h : Sh.Own Sh.eC w B v xs) (hne : xs ≠ []) : ∃ b cap, v = .slice (some ⟨b, 0, none⟩) xs.length cap ∧ xs.length ≤ cap ∧ RdG w B (some ⟨b, 0, none⟩, cap) xs := by
 have hr := h.rd
 rcases h.form with ⟨_, h0⟩ | ⟨g, cap, rfl, hc, hB, hlt⟩
 ·exact absurd h0 hne
 ·obtain ⟨cs, hat⟩ := own_at h rfl
  exact ⟨g, cap, rfl, hc, hr, .inr ⟨g, 0, cs, rfl, hB, hat⟩⟩
theorem run_tail1 (b n cap : Nat) (h1 : 1 ≤ n) (h2 : n ≤ cap) (h3 : cap ≠ 1) (W : World) : (Instr.slice 63 (.slice (some ⟨b, 0, none⟩) n cap) (some (.int .i64 1)) none none).run Tryz.prog W = .ok (.slice (some ⟨b, 8, none⟩) (n - 1) (cap - 1)) W := by
 have ht' : Tryz.prog.underlying 63 = some (.slice (Tryz.prog.elem 63)) := by simp [Program.elem, Sh.eC.hts, show 63 = Sh.eC.ts from rfl]
 have he : Tryz.prog.elem 63 = 46 := by simp [Program.elem, show 63 = Sh.eC.ts from rfl, Sh.eC.hts]; rfl
 obtain ⟨i, hi, hz, hs, hb⟩ := Sh.eC.info
 have hi' : Tryz.prog.info? 46 = some i := hi
 have hs' : i.size = 8 := hs
 have := run_slice_l W 63 (some ⟨b, 0, none⟩) n cap ht' .i64 1 (by omega) (by omega)
 rw [this, he]
 simp [Result.andThen, sliced, sizeOf, typeInfo, hi', hs', h3, Addr.add]
theorem RdG.tail {w : World} {B b cap : Nat} {x : K} {xs : List K} (h : RdG w B (some ⟨b, 0, none⟩, cap) (x :: xs)) : RdG w B (some ⟨b, 8, none⟩, cap - 1) xs := by
 obtain ⟨cs, hB, hat⟩ : ∃ cs, B ≤ b ∧ At w b 46 cs := by
  rcases h.2 with ⟨h0, _⟩ | ⟨b', off', cs', e3, hB, hat⟩
  ·cases h0
  ·injection e3 with e3
   injection e3 with e3 _
   subst e3
   exact ⟨cs', hB, hat⟩
 refine ⟨?_, .inr ⟨b, 8, cs, rfl, hB, hat⟩⟩
 obtain ⟨O, cap', e, hc, k⟩ := h.1
 injection e with e1 e2 e3
 subst e3
 refine ⟨_, _, rfl, by rw [List.length_cons] at hc; show xs.length ≤ cap - 1; omega, fun i y hy => ?_⟩
 obtain ⟨b', off', e4, hb, k2⟩ := k (i + 1) y (by simpa using hy)
 rw [← e1] at e4
 injection e4 with e4
 injection e4 with e5 e6
 subst e5; subst e6
 refine ⟨b, 8, rfl, hb, fun j u hu => ?_⟩
 have := k2 j u hu
 rw [show 8 + i * Sh.eC.s + j = 0 + (i + 1) * Sh.eC.s + j from by show 8 + i * 8 + j = 0 + (i + 1) * 8 + j; omega]
 exact this
def OL (W wx : World) (lv : Value) (xs : List K) : Prop := Below W.heap.size W wx ∧ Sh.Own Sh.eC wx W.heap.size lv xs
theorem OL.step {W wx wy : World} {lv : Value} {xs : List K} (h : OL W wx lv xs) (hb : Below wx.heap.size wx wy) : OL W wy lv xs := ⟨h.1.trans (hb.mono h.1.size), h.2.below hb⟩
theorem OL.new (W : World) : OL W (W.alloc (.cells #[] 46)) (.slice (some ⟨W.heap.size, 0, none⟩) 0 0) [] := ⟨below_new _ _, Sh.Own.lit0 Sh.eC W (Nat.le_refl _)⟩
theorem OL.push {W wx : World} {lv : Value} {xs : List K} (h : OL W wx lv xs) (x : K) (hn : xs.length ≤ 100000) (ty : TypeId) :
  ∃ rv' w', (Builtin.append_ #[63, 63] ty #[lv, .slice (some ⟨wx.heap.size, 0, none⟩) 1 1]).run Tryz.prog (wx.alloc (.cells x.cells 46)) = .ok rv' w' ∧ OL W w' rv' (xs ++ [x]) := by
 have hb : Below wx.heap.size wx (wx.alloc (.cells x.cells 46)) := below_new _ _
 have ho := h.2.below hb
 have hs := h.1.size
 obtain ⟨rv', w', hr, o', c', l'⟩ := ho.push (x := x) (b := wx.heap.size) (off := 0) (cap := 1) (by simp; omega) (fun j u hu => by
  rw [Nat.zero_add, (At.new wx 46 x.cells).cell]
  simpa [Sh.eC] using hu) (by omega) ty
 exact ⟨rv', w', hr, (h.1.trans (hb.mono hs)).trans (c'.below' ho (by simp; omega)), o'⟩
structure OT (W wx : World) (lv : Value) (xs : List K) (dv : Value) (ds : List K) : Prop where
 bel : Below W.heap.size W wx
 l : Sh.Own Sh.eC wx W.heap.size lv xs
 d : Sh.Own Sh.eC wx W.heap.size dv ds
 ne : ∀ k, lv.ownBlock = some k → dv.ownBlock ≠ some k
theorem OT.pushD {W wx : World} {lv dv : Value} {xs ds : List K} (h : OT W wx lv xs dv ds) (x : K) (hn : ds.length ≤ 100000) (ty : TypeId) :
  ∃ rv' w', (Builtin.append_ #[63, 63] ty #[dv, .slice (some ⟨wx.heap.size, 0, none⟩) 1 1]).run Tryz.prog (wx.alloc (.cells x.cells 46)) = .ok rv' w' ∧ OT W w' lv xs rv' (ds ++ [x]) := by
 have hb : Below wx.heap.size wx (wx.alloc (.cells x.cells 46)) := below_new _ _
 have ho := h.d.below hb; have hl := h.l.below hb
 have hs := h.bel.size
 obtain ⟨rv', w', hr, o', c', l'⟩ := ho.push (x := x) (b := wx.heap.size) (off := 0) (cap := 1) (by simp; omega) (fun j u hu => by
  rw [Nat.zero_add, (At.new wx 46 x.cells).cell]
  simpa [Sh.eC] using hu) (by omega) ty
 refine ⟨rv', w', hr, (h.bel.trans (hb.mono hs)).trans (c'.below' ho (by simp; omega)), hl.chg c' (fun k hk hd => h.ne k hk hd), o', fun k hk hk2 => ?_⟩
 have := l'.old hk2 (h.l.lt hk |>.2 |> fun q => by simp; omega)
 exact h.ne k hk this
theorem OT.pushL {W wx : World} {lv dv : Value} {xs ds : List K} (h : OT W wx lv xs dv ds) (x : K) (hn : xs.length ≤ 100000) (ty : TypeId) :
  ∃ rv' w', (Builtin.append_ #[63, 63] ty #[lv, .slice (some ⟨wx.heap.size, 0, none⟩) 1 1]).run Tryz.prog (wx.alloc (.cells x.cells 46)) = .ok rv' w' ∧ OT W w' rv' (xs ++ [x]) dv ds := by
 have h' : OT W wx dv ds lv xs := ⟨h.bel, h.d, h.l, fun k hk hk2 => h.ne k hk2 hk⟩
 obtain ⟨rv', w', hr, o⟩ := h'.pushD x hn ty
 exact ⟨rv', w', hr, o.bel, o.d, o.l, fun k hk hk2 => o.ne k hk2 hk⟩
theorem OL.copy {W wx : World} {lv : Value} {xs : List K} (h : OL W wx lv xs) {s : Sl} {ds : List K} (hd : RdF wx s ds) (hn : ds.length ≤ 100000) (ty : TypeId) :
  ∃ dv w', (Builtin.append_ #[63, 63] ty #[.slice (some ⟨wx.heap.size, 0, none⟩) 0 0, .slice s.1 ds.length s.2]).run Tryz.prog (wx.alloc (.cells #[] 46)) = .ok dv w' ∧ OT W w' lv xs dv ds := by
 have hb : Below wx.heap.size wx (wx.alloc (.cells #[] 46)) := below_new _ _
 have hl := h.2.below hb
 have ho : Sh.Own Sh.eC (wx.alloc (.cells #[] 46)) wx.heap.size (.slice (some ⟨wx.heap.size, 0, none⟩) 0 0) [] := Sh.Own.lit0 Sh.eC wx (Nat.le_refl _)
 have hd2 := hd.step hb
 obtain ⟨dv, w', hr, o', c', l'⟩ := ho.join (u := .slice s.1 ds.length s.2) (us := ds) (by simp) (by
  rcases hd2.2 with ⟨rfl, rfl⟩ | ⟨b, off, cs, e, _⟩
  ·exact .inl ⟨rfl, rfl⟩
  ·refine .inr ⟨b, off, s.2, by rw [e], fun i x hx j y hy => ?_⟩
   obtain ⟨O, cap, e2, _, k⟩ := hd2.1
   injection e2 with e3 _ _
   obtain ⟨b', off', e4, _, k2⟩ := k i x hx
   rw [← e3, e] at e4
   injection e4 with e4
   injection e4 with e5 e6
   subst e5; subst e6
   exact k2 j y hy) (by simp; omega) ty
 have hne : ∀ k, lv.ownBlock = some k → k < wx.heap.size := fun k hk => (h.2.lt hk).2
 refine ⟨dv, w', hr, (h.1.trans (hb.mono h.1.size)).trans ((c'.below' ho (by simp)).mono h.1.size), hl.chg c' (fun k hk hd => ?_), (by simpa using o'.mono h.1.size), fun k hk hk2 => ?_⟩
 ·have := hne k hk
  have e : wx.heap.size = k := by simpa [Value.ownBlock] using hd
  omega
 ·have h1 := hne k hk
  have h2 := (o'.lt hk2).1
  omega
structure TL (w wx : World) (B g s q r : Nat) (u : U) (sl sd : Sl) (x : K) : Prop where
 bel : Below w.heap.size w wx
 bk : UkAt wx g u sl sd
 k : KAt wx s x
 ans : ∃ z a b, UkAt wx q z a b
 an2 : CgAt wx r zg
 lo : w.heap.size ≤ g ∧ w.heap.size ≤ q ∧ w.heap.size ≤ r
 hi : g < B ∧ q < B ∧ r < B
 ne : g ≠ q
theorem TL.new (w : World) (u : U) (sl sd : Sl) (x : K) : ∀ W, W = (((w.alloc (.cells (u.cells sl sd) 65)).alloc (.cells x.cells 46)).alloc (.cells Z26 65)).alloc (.cells Z11 48) → TL w W W.heap.size w.heap.size (w.heap.size + 1) (w.heap.size + 1 + 1) (w.heap.size + 1 + 1 + 1) u sl sd x := by
 rintro W rfl
 obtain ⟨h1, h2, h3, h4, h5⟩ := new4 w (u.cells sl sd) x.cells Z26 Z11 65 46 65 48
 have hs : ((((w.alloc (.cells (u.cells sl sd) 65)).alloc (.cells x.cells 46)).alloc (.cells Z26 65)).alloc (.cells Z11 48)).heap.size = w.heap.size + 4 := by simp
 exact ⟨h1, h2, h3, ⟨zu, s0, s0, h4⟩, h5, ⟨by omega, by omega, by omega⟩, by rw [hs]; omega, by omega⟩
section
variable {w W wx wy : World} {B g s q r : Nat} {u u' : U} {sl sd sl' sd' : Sl} {x : K}
theorem TL.step (h : TL w W B g s q r u sl sd x) (hb : Below W.heap.size W wx) : TL w wx B g s q r u sl sd x := by
 obtain ⟨z, a, b, hz⟩ := h.ans
 exact ⟨h.bel.trans (hb.mono h.bel.size), At.step h.bk hb, h.k.step hb, ⟨z, a, b, At.step hz hb⟩, At.step h.an2 hb, h.lo, h.hi, h.ne⟩
theorem TL.one (h : TL w wx B g s q r u sl sd x) {i : Nat} {v : Value} (hb : UkAt (wx.setCell ⟨g, i, none⟩ v) g u' sl' sd') : TL w (wx.setCell ⟨g, i, none⟩ v) B g s q r u' sl' sd' x := by
 obtain ⟨z, a, b, hz⟩ := h.ans
 exact ⟨h.bel.setCell h.lo.1 _, hb, At.far h.k (At.ne h.k h.bk (by decide)) _, ⟨z, a, b, At.far hz (Ne.symm h.ne) _⟩, At.far h.an2 (At.ne h.an2 h.bk (by decide)) _, h.lo, h.hi, h.ne⟩
theorem TL.put (h : TL w wx B g s q r u sl sd x) : TL w (wx.setRow q (u.cells sl sd)) B g s q r u sl sd x ∧ UkAt (wx.setRow q (u.cells sl sd)) q u sl sd := by
 obtain ⟨z, a, b, hz⟩ := h.ans
 have hq : UkAt (wx.setRow q (u.cells sl sd)) q u sl sd := At.setRow hz _
 exact ⟨⟨setRow_below h.bel h.lo.2.1 _, At.farRow h.bk h.ne, At.farRow h.k (At.ne h.k hz (by decide)), ⟨u, sl, sd, hq⟩, At.farRow h.an2 (At.ne h.an2 hz (by decide)), h.lo, h.hi, h.ne⟩, hq⟩
theorem TL.drew (h : TL w wx B g s q r u sl sd x) : TL w wx.drew B g s q r u sl sd x := ⟨⟨h.bel.os, h.bel.tape, h.bel.output, h.bel.size, h.bel.block⟩, h.bk, h.k, h.ans, h.an2, h.lo, h.hi, h.ne⟩
theorem TL.fin (h : TL w wx B g s q r u sl sd x) {z : U} {a b : Sl} (hq : UkAt wx q z a b) (c : Cg) (n : Int) (hrr : UAt (wx.setRow r c.cells) z a b) :
  UkAt (wx.setRow r c.cells) q z a b ∧ CgAt (wx.setRow r c.cells) r c ∧ U3 w (z, c, n) (.returned (.tuple #[z.V a b, c.V, .int .i64 n])) (wx.setRow r c.cells) :=
 ⟨At.farRow hq (At.ne hq h.an2 (by decide)), At.setRow h.an2 _, a, b, rfl, hrr, setRow_below h.bel h.lo.2.2 _⟩
end
theorem built_nx (k : K) (n : Int) : Tryz.prog.built 48 [(0, .int .i64 n), (1, k.V)] = some (⟨n, k, 0, 0⟩ : Cg).cells := by kernel_rfl
theorem liveN_take (u : U) (x : K) (j : Nat) : ((u.live.take j).flatMap (stepL x)).length ≤ u.live.length := by
 have := liveN_len { u with live := u.live.take j } x
 refine Nat.le_trans this ?_
 show (u.live.take j).length ≤ _
 rw [List.length_take]; omega
theorem run_build_nx {ρ : Operand → Value} {w : World} {x y : Tmp} {n : Int} {k : K} {d : Option Tmp} {t : TypeId} {pos : String} {af : Array Edge} {gd : Option (Nat × Bool)} (e1 : ρ (.tmp x) = .int .i64 n) (e2 : ρ (.tmp y) = k.V) :
  (execOp ρ { dst := d, op := Op.build 48 #[(0, .tmp x), (1, .tmp y)], type := t, pos := pos, after := af, guard := gd }).run Tryz.prog w = .ok (.value (⟨n, k, 0, 0⟩ : Cg).V) w := by
 have hf : Tryz.prog.built 48 ((#[(0, Operand.tmp x), (1, .tmp y)] : Array (Nat × Operand)).map fun (i, u) => (i, ρ u)).toList = some (⟨n, k, 0, 0⟩ : Cg).cells := by
  simp only [List.map_toArray, List.map_cons, List.map_nil, e1, e2]
  exact built_nx k n
 unfold execOp
 simp only [Sem.run_bind, run_build w 48 _ _ hf, Result.andThen_ok, Sem.run_pure]
end Go.Proofs.YtplapoenhohliaaGreat
