/- The contracts of slices.IndexFunc and slices.DeleteFunc at places, with the closure of Drop. -/
import Derived.Test.YtenajaiedoigpaaDropB
namespace Go.Proofs.Ytenajaiedoigpaa
open Go.RowKit Go.Lib Plain

/-- the first ones -/
def front (pl : Nat → Int × Nat) (i : Nat) : List (Int × Nat) := (List.range i).map pl
theorem front_succ (pl : Nat → Int × Nat) (i : Nat) : front pl (i + 1) = front pl i ++ [pl i] := by simp [front, List.range_succ]
theorem front_length (pl : Nat → Int × Nat) (i : Nat) : (front pl i).length = i := by simp [front]
theorem front_congr {pl pl' : Nat → Int × Nat} {i : Nat} (h : ∀ k, k < i → pl k = pl' k) : front pl i = front pl' i := List.map_congr_left (fun k hk => h k (by simpa using hk))
theorem rd_front (pl : Nat → Int × Nat) (P i : Nat) (h : i ≤ P) : rd pl 0 P i = front pl i := by
  unfold rd front
  apply List.map_congr_left
  intro k hk
  have : k < i := by simpa using hk
  rw [Nat.zero_add, Nat.mod_eq_of_lt (by omega)]
/-- whether a place goes -/
def goes (ns : List Int) (x : Int × Nat) : Bool := decide ((x.2 : Int) ∈ ns)
/-- what the closure holds -/
structure DVar (w : World) (h B : Nat) (vl : Value) (ns : List Int) : Prop where
  var : At w h 30 #[vl]
  own : OwnI w B vl ns
  sorted : ns.Pairwise (· < ·)
  few : ns.length ≤ 100000
section
variable {w w' : World} {h B R n : Nat} {vl : Value} {ns : List Int} {pl : Nat → Int × Nat}
theorem DVar.below (d : DVar w h B vl ns) (hb : Below w.heap.size w w') : DVar w' h B vl ns := ⟨d.var.below hb d.var.lt, d.own.below hb, d.sorted, d.few⟩
theorem DVar.chg {S : Nat → Prop} (d : DVar w h B vl ns) (hc : Chg w w' S) (h1 : ¬ S h) (h2 : ∀ k, vl.ownBlock = some k → ¬ S k) : DVar w' h B vl ns := ⟨d.var.chg hc h1, own_chg d.own hc h2, d.sorted, d.few⟩
theorem DVar.del (d : DVar w h B vl ns) (x : Int × Nat) : Calls Try.prog 42 #[.agg #[.int .i64 x.1, .int .i64 (x.2 : Int)], .pointer (some ⟨h, 0, none⟩)] w fun e w' => e = .returned (.bool (goes ns x)) ∧ w' = w.alloc (.cells #[.int .i64 x.1, .int .i64 (x.2 : Int)] 70) := del_any x d.var d.own d.sorted d.few
/-- what IndexFunc answers -/
def IdxTo (w : World) (n : Nat) (pl : Nat → Int × Nat) (ns : List Int) (e : Ending) (w' : World) : Prop :=
  Below w.heap.size w w' ∧ ((e = .returned (.int .i64 (-1)) ∧ ∀ t, t < n → goes ns (pl t) = false) ∨ ∃ t : Nat, t < n ∧ e = .returned (.int .i64 (t : Int)) ∧ goes ns (pl t) = true ∧ ∀ s, s < t → goes ns (pl s) = false)
set_option maxRecDepth 100000 in
set_option maxHeartbeats 800000 in
theorem index_any (d : DVar w h B vl ns) (hp : Pls (two (Value.int .i64)) 70 w R n pl) (hn : n ≤ 65536) (cap : Nat) : Calls Try.prog 56 #[.slice (some ⟨R, 0, none⟩) n cap, fdel h] w (IdxTo w n pl ns) := by
  unfold IdxTo
  have D := Lib.hid d; have HP := Lib.hid hp; clear d hp
  unfold fdel
  go_enter Try.func56, Try.ntmps56
  go_wp2_with fail
  go_loopg [8, 5] n (fun gh s8 s5 wx => ∃ j : Nat, j ≤ n ∧ gh = n - j ∧ s8 = .int .i64 (j : Int) ∧ (∀ t, t < j → goes ns (pl t) = false) ∧ Below w.heap.size w wx)
  case atStart => exact ⟨0, Nat.zero_le _, rfl, rfl, fun t ht => absurd ht (by omega), Below.refl _ _⟩
  case round =>
    obtain ⟨j, hj, hg, rfl, hall, hb⟩ := hrel
    have HG := Lib.hid hg; have HALL := Lib.hid hall; have HB := Lib.hid hb; clear hg hall hb
    by_cases hlt : j < n
    · have hp := HP.out.below HB.out HP.out.lt
      have k0 := hp.c0 (i := j) hlt; have k1 := hp.c1 (i := j) hlt
      have cd := (D.out.below HB.out).del (pl j)
      have b3 : (j : Int) < (n : Int) := by omega
      have b4 : (0 : Int) ≤ (j : Int) := by omega
      clear hp
      generalize hx : pl j = x at *
      have HX := Lib.hid hx; clear hx
      cases hq : goes ns x
      · rw [hq] at cd
        have CD := Lib.hid cd; have HQ := Lib.hid hq; clear cd hq
        go_wp2_with fail
        refine CD.out.mono ?_
        rintro e w2 ⟨rfl, rfl⟩
        go_wp2_with fail
        go_roundg (n - (j + 1))
        case measure => have := HG.out; omega
        case rel => exact ⟨j + 1, by omega, rfl, by go_num, fun t ht => by
          rcases Nat.lt_or_ge t j with h9 | h9
          · exact HALL.out t h9
          · have : t = j := by omega
            rw [this, HX.out]; exact HQ.out, HB.out.alloc HB.out.size _⟩
      · rw [hq] at cd
        have CD := Lib.hid cd; have HQ := Lib.hid hq; clear cd hq
        go_wp2_with fail
        refine CD.out.mono ?_
        rintro e w2 ⟨rfl, rfl⟩
        go_wp2_with fail
        go_ret
        exact ⟨HB.out.alloc HB.out.size _, .inr ⟨j, hlt, rfl, by rw [HX.out]; exact HQ.out, HALL.out⟩⟩
    · obtain rfl : j = n := by omega
      go_wp2_with fail
      go_ret
      exact ⟨HB.out, .inl ⟨rfl, HALL.out⟩⟩
theorem at_setCells {g : Nat} {t : TypeId} : ∀ (vs : List Value) (o : Nat) (w : World) (arr : Array Value), At w g t arr → o + vs.length ≤ arr.size →
    ∃ arr', At (w.setCells g o vs) g t arr' ∧ arr'.size = arr.size ∧ (∀ k, k < o ∨ o + vs.length ≤ k → arr'[k]? = arr[k]?) ∧ (∀ k, k < vs.length → arr'[o + k]? = vs[k]?)
  | [], o, w, arr, h, _ => ⟨arr, h, rfl, fun _ _ => rfl, fun k hk => absurd hk (by simp)⟩
  | v :: vs, o, w, arr, h, hz => by
    simp only [List.length_cons] at hz
    obtain ⟨arr', h1, h2, h3, h4⟩ := at_setCells vs (o + 1) (w.setCell ⟨g, o, none⟩ v) _ (h.set o v) (by simp; omega)
    refine ⟨arr', h1, by rw [h2]; simp, fun k hk => ?_, fun k hk => ?_⟩
    · simp only [List.length_cons] at hk
      rw [h3 k (by omega), Array.getElem?_setIfInBounds_ne (by omega)]
    · cases k with
      | zero => rw [Nat.add_zero, h3 o (by omega), Array.getElem?_setIfInBounds_self_of_lt (by omega)]; rfl
      | succ k =>
        have := h4 k (by simpa using hk)
        rw [show o + (k + 1) = o + 1 + k by omega, this]
        rfl
theorem chg_setCells {g : Nat} : ∀ (vs : List Value) (o : Nat) (w : World), Chg w (w.setCells g o vs) (fun k => k = g)
  | [], _, w => Chg.refl w _
  | v :: vs, o, w => ((Chg.refl w (fun k => k = g)).set (p := ⟨g, o, none⟩) (fun _ => rfl) v).trans (chg_setCells vs (o + 1) _) (fun _ _ h => h)
/-- 'clear(s[i:])' -/
theorem clear_places (hp : Pls (two (Value.int .i64)) 70 w R n pl) (i : Nat) (hi : i < n) (ty : TypeId) : ∃ w2, (Builtin.clear_ #[66] ty #[.slice (some ⟨R, i * 2, none⟩) (n - i) (n - i)]).run Try.prog w = .ok (.tuple #[]) w2 ∧
    Pls (two (Value.int .i64)) 70 w2 R n (fun t => if t < i then pl t else (0, 0)) ∧ Chg w w2 (fun k => k = R) := by
  obtain ⟨arr, ha, hz, hc⟩ := hp
  have hzc : (Builtin.zeroCells (Value.agg #[.int .i64 0, .int .i64 0]).cells (n - i)).toList.length = (n - i) * 2 := by simp [Builtin.zeroCells, Value.cells]
  have hzk : ∀ k, k < (n - i) * 2 → (Builtin.zeroCells (Value.agg #[.int .i64 0, .int .i64 0]).cells (n - i)).toList[k]? = some (.int .i64 0) := by
    intro k hk
    have : k % 2 = 0 ∨ k % 2 = 1 := by omega
    rcases this with h2 | h2 <;> simp [Builtin.zeroCells, Value.cells, h2, hk]
  have hcell : ∀ k, k < n * 2 → (w.cell? ⟨R, k, none⟩).isSome = true := fun k hk => by
    rw [ha.cell, Array.getElem?_eq_getElem (by omega)]; rfl
  have hst := run_storeCells_cells (P := Try.prog) R (i * 2) (Builtin.zeroCells (Value.agg #[.int .i64 0, .int .i64 0]).cells (n - i)).toList 0 w (by
      intro j hj
      rw [hzc] at hj
      exact hcell _ (by omega)) (fun j hj => ha.frozen _) (by
      intro v hv
      obtain ⟨k, hk, e⟩ := List.mem_iff_getElem.1 hv
      have := hzk k (by rw [hzc] at hk; exact hk)
      rw [List.getElem?_eq_getElem hk] at this
      rw [← e, Option.some.inj this]; rfl)
  obtain ⟨m, hm⟩ : ∃ m, n - i = m + 1 := ⟨n - i - 1, by omega⟩
  have hzv : ∀ w, (zeroValue 70).run Try.prog w = .ok (.agg #[.int .i64 0, .int .i64 0]) w := fun w => Try.zeroValue70 w
  refine ⟨w.setCells R (i * 2 + 0) (Builtin.zeroCells (Value.agg #[.int .i64 0, .int .i64 0]).cells (n - i)).toList, ?_, ?_, chg_setCells _ _ _⟩
  · rw [hm] at hst ⊢
    simp [Builtin.clear_, run_underlying Try.underlying66, hzv, hst]
  · obtain ⟨arr', h1, h2, h3, h4⟩ := at_setCells (g := R) (Builtin.zeroCells (Value.agg #[.int .i64 0, .int .i64 0]).cells (n - i)).toList (i * 2 + 0) w arr ha (by rw [hzc]; omega)
    refine ⟨arr', h1, by rw [h2]; exact hz, fun k hk => ?_⟩
    rw [hzc] at h3 h4
    by_cases hki : k < i
    · dsimp only
      rw [if_pos hki, h3 _ (by omega), h3 _ (by omega)]
      exact hc k hk
    · dsimp only
      rw [if_neg hki]
      have e1 := h4 (k * 2 - i * 2) (by omega)
      have e2 := h4 (k * 2 + 1 - i * 2) (by omega)
      rw [hzk _ (by omega)] at e1 e2
      rw [show i * 2 + 0 + (k * 2 - i * 2) = k * 2 by omega] at e1
      rw [show i * 2 + 0 + (k * 2 + 1 - i * 2) = k * 2 + 1 by omega] at e2
      exact ⟨e1, e2⟩
/-- the state of the loop of DeleteFunc -/
structure DSt (w wx : World) (R n i j : Nat) (pl pl' : Nat → Int × Nat) (ns : List Int) : Prop where
  row : Pls (two (Value.int .i64)) 70 wx R n pl'
  ij : i < j
  jn : j ≤ n
  kept : front pl' i = (front pl j).filter (fun x => !goes ns x)
  rest : ∀ t, j ≤ t → pl' t = pl t
  chg : Chg w wx (fun k => k = R)
theorem DSt.skip {wx : World} {i j : Nat} {pl' : Nat → Int × Nat} (s : DSt w wx R n i j pl pl' ns) (hj : j < n) (hq : goes ns (pl j) = true) : DSt w wx R n i (j + 1) pl pl' ns :=
  ⟨s.row, by have := s.ij; omega, hj, by rw [front_succ, filter_snoc, s.kept, if_neg (by simp [hq])], fun t ht => s.rest t (by omega), s.chg⟩
theorem DSt.below {wx w1 : World} {i j : Nat} {pl' : Nat → Int × Nat} (s : DSt w wx R n i j pl pl' ns) (hb : Below wx.heap.size wx w1) : DSt w w1 R n i j pl pl' ns :=
  ⟨s.row.below hb s.row.lt, s.ij, s.jn, s.kept, s.rest, s.chg.trans (Chg.ofBelow hb (fun _ => False)) (fun _ _ h => h.elim)⟩
theorem DSt.keep {wx : World} {i j : Nat} {pl' : Nat → Int × Nat} (s : DSt w wx R n i j pl pl' ns) (hj : j < n) (hq : goes ns (pl j) = false) :
    DSt w ((wx.setCell ⟨R, i * 2, none⟩ (.int .i64 (pl j).1)).setCell ⟨R, i * 2 + 1, none⟩ (.int .i64 ((pl j).2 : Int))) R n (i + 1) (j + 1) pl (upd pl' i (pl j)) ns := by
  have hij := s.ij
  refine ⟨s.row.put (i := i) (by omega) (pl j), by omega, hj, ?_, fun t ht => ?_, ?_⟩
  · rw [front_succ, upd_at, front_succ, filter_snoc, if_pos (by simp [hq]), ← s.kept]
    congr 1
    exact front_congr (fun k hk => upd_far _ _ (by omega))
  · rw [upd_far _ _ (by omega)]; exact s.rest t (by omega)
  · exact (s.chg.set (p := ⟨R, i * 2, none⟩) (fun _ => rfl) _).set (p := ⟨R, i * 2 + 1, none⟩) (fun _ => rfl) _
/-- what DeleteFunc answers -/
def DelTo (w : World) (R n : Nat) (pl : Nat → Int × Nat) (ns : List Int) (e : Ending) (w' : World) : Prop :=
  ∃ pl', e = .returned (.slice (some ⟨R, 0, none⟩) ((front pl n).filter (fun x => !goes ns x)).length n) ∧ Pls (two (Value.int .i64)) 70 w' R n pl' ∧ front pl' ((front pl n).filter (fun x => !goes ns x)).length = (front pl n).filter (fun x => !goes ns x) ∧ Chg w w' (fun k => k = R)
theorem filter_all {pl : Nat → Int × Nat} {n : Nat} {ns : List Int} (h : ∀ t, t < n → goes ns (pl t) = false) : (front pl n).filter (fun x => !goes ns x) = front pl n := by
  rw [List.filter_eq_self]
  intro x hx
  obtain ⟨t, ht, rfl⟩ := List.mem_map.1 hx
  rw [h t (by simpa using ht)]; rfl
theorem dst_start {k : Nat} {w1 : World} (hp : Pls (two (Value.int .i64)) 70 w1 R n pl) (hk : k < n) (hq : goes ns (pl k) = true) (hall : ∀ t, t < k → goes ns (pl t) = false) (hc : Chg w w1 (fun k => k = R)) : DSt w w1 R n k (k + 1) pl pl ns :=
  ⟨hp, by omega, hk, by rw [front_succ, filter_snoc, if_neg (by simp [hq]), filter_all hall], fun _ _ => rfl, hc⟩
set_option maxRecDepth 100000 in
set_option maxHeartbeats 1600000 in
theorem delete_any (d : DVar w h B vl ns) (hp : Pls (two (Value.int .i64)) 70 w R n pl) (hn : n ≤ 65536) (hRh : R ≠ h) (hRv : vl.ownBlock ≠ some R) : Calls Try.prog 41 #[.slice (some ⟨R, 0, none⟩) n n, fdel h] w (DelTo w R n pl ns) := by
  have ci := index_any d hp hn n
  unfold DelTo
  have D := Lib.hid d; have HP := Lib.hid hp; have CI := Lib.hid ci; clear d hp ci
  unfold fdel at CI ⊢
  go_enter Try.func41, Try.ntmps41
  go_wp2_with fail
  refine CI.out.mono ?_
  rintro e w1 ⟨hb1, ⟨rfl, hall⟩ | ⟨k, hk, rfl, hq, hall⟩⟩
  · have hfin := filter_all hall
    have hp1 := HP.out.below hb1 HP.out.lt
    have HF := Lib.hid (And.intro hp1 (Chg.ofBelow hb1 (fun k => k = R))); have HFIN := Lib.hid hfin; clear hfin hall hp1 hb1 CI
    go_wp2_with fail
    go_ret
    rw [HFIN.out, front_length]
    exact ⟨pl, rfl, HF.out.1, rfl, HF.out.2⟩
  · have st := dst_start (w := w) (HP.out.below hb1 HP.out.lt) hk hq hall (Chg.ofBelow hb1 _)
    have ST := Lib.hid st; clear st hall hq hb1 CI
    have b1 : ((k : Int) == -1) = false := beq_eq_false_iff_ne.2 (by omega)
    go_wp2_with fail
    go_loopg [5, 6] (n - (k + 1)) (fun gh s5 s6 wx => ∃ (i j : Nat) (pl' : Nat → Int × Nat), j ≤ n ∧ gh = n - j ∧ s5 = .int .i64 (i : Int) ∧ s6 = .int .i64 (j : Int) ∧ DSt w wx R n i j pl pl' ns)
    case atStart => exact ⟨k, k + 1, pl, by omega, rfl, rfl, by go_num, ST.out⟩
    case round =>
      obtain ⟨i, j, pl', hj, hg, rfl, rfl, hst⟩ := hrel
      have HG := Lib.hid hg; have KST := Lib.hid hst; clear hg hst ST
      have hij := KST.out.ij
      by_cases hlt : j < n
      · have k0 := KST.out.row.c0 (i := j) hlt; have k1 := KST.out.row.c1 (i := j) hlt
        rw [KST.out.rest j (Nat.le_refl _)] at k0 k1
        have hRl := KST.out.row.lt
        have hb2 : Below wr.heap.size wr (wr.alloc (.cells #[.int .i64 (pl j).1, .int .i64 ((pl j).2 : Int)] 70)) := (Below.refl _ _).alloc (Nat.le_refl _) _
        have dv := (D.out.chg KST.out.chg (fun e => hRh e.symm) (fun k hk e => hRv (by rw [hk, e]))).below hb2
        have cd := dv.del (pl j)
        have st2 := KST.out.below hb2
        have st3 := st2.below (w1 := (wr.alloc (.cells #[.int .i64 (pl j).1, .int .i64 ((pl j).2 : Int)] 70)).alloc (.cells #[.int .i64 (pl j).1, .int .i64 ((pl j).2 : Int)] 70)) ((Below.refl _ _).alloc (Nat.le_refl _) _)
        have b3 : (j : Int) < (n : Int) := by omega
        have b4 : (0 : Int) ≤ (j : Int) := by omega
        have b5 : (i : Int) < (n : Int) := by omega
        have b6 : (0 : Int) ≤ (i : Int) := by omega
        cases hq : goes ns (pl j)
        · rw [hq] at cd
          have st4 := st3.keep hlt hq
          have a3 : At ((wr.alloc (.cells #[.int .i64 (pl j).1, .int .i64 ((pl j).2 : Int)] 70)).alloc (.cells #[.int .i64 (pl j).1, .int .i64 ((pl j).2 : Int)] 70)) wr.heap.size 70 #[.int .i64 (pl j).1, .int .i64 ((pl j).2 : Int)] := (At.new wr 70 _).alloc _
          have e0 := st3.row.c0 (i := i) (by omega); have e1 := st3.row.c1 (i := i) (by omega)
          have z0 := st3.row.frozen (i * 2); have z1 := st3.row.frozen (i * 2 + 1)
          have q0 := a3.cell 0
          have q1 := a3.cell 1
          have CD := Lib.hid cd; have ST4 := Lib.hid st4; clear cd st4 st3 st2 dv hb2 a3
          generalize pl j = x at *
          go_wp2_with fail
          refine CD.out.mono ?_
          rintro e w2 ⟨rfl, hw2⟩
          rw [← hw2] at ST4 e0 e1 z0 z1 q0 q1
          have hz2 : R < w2.heap.size := by rw [hw2]; simp; omega
          clear hw2 k0 k1
          go_wp2_with fail
          go_roundg (n - (j + 1))
          case measure => have := HG.out; omega
          case rel => exact ⟨i + 1, j + 1, _, by omega, rfl, by go_num, by go_num, ST4.out⟩
        · rw [hq] at cd
          have st4 := st3.skip hlt hq
          have CD := Lib.hid cd; have ST4 := Lib.hid st4; clear cd st4 st3 st2 dv hb2
          generalize pl j = x at *
          go_wp2_with fail
          refine CD.out.mono ?_
          rintro e w2 ⟨rfl, rfl⟩
          go_wp2_with fail
          go_roundg (n - (j + 1))
          case measure => have := HG.out; omega
          case rel => exact ⟨i, j + 1, _, by omega, rfl, rfl, by go_num, ST4.out⟩
      · obtain rfl : j = n := by omega
        obtain ⟨w2, hr, hp2, hc2⟩ := clear_places KST.out.row i (by omega) 0
        have hk := KST.out.kept
        have hfin : front (fun t => if t < i then pl' t else (0, 0)) i = (front pl j).filter (fun x => !goes ns x) := by
          rw [← hk]; exact front_congr (fun k hk => if_pos hk)
        have hl : ((front pl j).filter (fun x => !goes ns x)).length = i := by rw [← hk, front_length]
        have HL := Lib.hid hl
        have hall := KST.out.chg.trans hc2 (fun _ _ h => h)
        have HR := Lib.hid hr; have HP2 := Lib.hid hp2; have HFIN := Lib.hid hfin; have HALL := Lib.hid hall
        clear hr hp2 hfin hall hc2 hk hl KST
        have b5 : (i : Int) < (j : Int) := by omega
        have b6 : (0 : Int) ≤ (i : Int) := by omega
        go_wp2_with fail
        rw [HR.out]
        go_wp2_with fail
        go_ret
        rw [HL.out]
        exact ⟨_, rfl, HP2.out, HFIN.out, HALL.out⟩
end
end Go.Proofs.Ytenajaiedoigpaa
