/- The walk of RingTwice: it returns true. -/
import Derived.Test.YtenajaiedoigpaaFoldA
import Derived.Test.YtenajaiedoigpaaRingOrder
namespace Go.Proofs.Ytenajaiedoigpaa
open Go.RowKit Go.Lib Plain
attribute [local go_sem ↓] Go.wp_at_zero Go.wp_at_succ

theorem fill_yes {zs : List Int} {k j : Nat} (h : j < zs.length) (hk : min k j < k) : zs.take (min k (j + 1)) = zs.take (min k j) ++ [zs.getD j 0] := by
  have e1 : min k (j + 1) = j + 1 := by omega
  have e2 : min k j = j := by omega
  have e : zs[j]?.toList = [zs.getD j 0] := by simp [List.getD, h]
  rw [e1, e2, List.take_add_one, e]
theorem fill_no {zs : List Int} {k j : Nat} (hk : ¬ min k j < k) : zs.take (min k (j + 1)) = zs.take (min k j) := by
  have e1 : min k (j + 1) = k := by omega
  have e2 : min k j = k := by omega
  rw [e1, e2]
/-- the state of the loop that fills the ring -/
structure PSt (w wx : World) (p k m j : Nat) (its : List (Int × Nat)) (zs : List Int) : Prop where
  ring : RAt (two (Value.int .i64)) 68 70 wx p p k its m
  has : its.map (·.1) = zs.take (min k j)
  chg : Chg w wx (fun i => w.heap.size ≤ i)
  lo : w.heap.size ≤ p
  le : p ≤ wx.heap.size
theorem PSt.length {w wx : World} {p k m j : Nat} {its : List (Int × Nat)} {zs : List Int} (h : PSt w wx p k m j its zs) (hj : j ≤ zs.length) : its.length = min k j := by
  have := congrArg List.length h.has
  rw [List.length_map, List.length_take] at this
  omega
theorem PSt.push {w wx w1 : World} {p k m j : Nat} {its : List (Int × Nat)} {zs : List Int} (h : PSt w wx p k m j its zs) (hj : j < zs.length) (hk : its.length < k) (hr : RAt (two (Value.int .i64)) 68 70 w1 p p k (its ++ [(zs.getD j 0, m)]) (m + 1)) (hc : Chg wx w1 (RBlk 68 70 wx p)) : PSt w w1 p k (m + 1) (j + 1) (its ++ [(zs.getD j 0, m)]) zs := by
  have hl := h.length (by omega)
  exact ⟨hr, by rw [List.map_append, h.has, fill_yes hj (by omega)]; rfl, h.chg.trans hc (fun i _ e => e.hi h.lo), h.lo, Nat.le_trans h.le hc.size⟩
theorem PSt.no {w wx : World} {p k m j : Nat} {its : List (Int × Nat)} {zs : List Int} (h : PSt w wx p k m j its zs) (hj : j < zs.length) (hk : ¬ its.length < k) : PSt w wx p k m (j + 1) its zs := by
  have hl := h.length (by omega)
  exact ⟨h.ring, by rw [h.has, fill_no (by omega)], h.chg, h.lo, h.le⟩
/-- how many go -/
def gone (by_ : Int) (xs : List Int) : Nat := (xs.filter (oddB by_)).length
theorem gone_take {by_ : Int} {xs : List Int} {j : Nat} (h : j < xs.length) : gone by_ (xs.take (j + 1)) = gone by_ (xs.take j) + if oddB by_ (xs.getD j 0) = true then 1 else 0 := by
  have e : xs[j]?.toList = [xs.getD j 0] := by simp [List.getD, h]
  unfold gone
  rw [List.take_add_one, e, filter_snoc]
  split <;> simp_all
theorem gone_le (by_ : Int) (xs : List Int) : gone by_ xs ≤ xs.length := List.length_filter_le _ _
theorem gone_stays (by_ : Int) (its : List (Int × Nat)) : (stays by_ its).length + gone by_ (its.map (·.1)) = its.length := by
  have h1 : (stays by_ its).length = (staysI by_ (its.map (·.1))).length := by rw [← stays_map, List.length_map]
  have h2 : ∀ xs : List Int, (staysI by_ xs).length + gone by_ xs = xs.length := by
    intro xs
    induction xs with
    | nil => rfl
    | cons x xs ih =>
      unfold staysI gone at ih ⊢
      cases h : oddB by_ x <;> simp [h] <;> omega
  rw [h1, h2, List.length_map]
theorem stays_twice (by_ : Int) (its : List (Int × Nat)) : stays by_ (stays by_ its) = stays by_ its := by
  unfold stays
  rw [List.filter_filter]
  simp
theorem getD_map2 {xs : List Int} {i : Nat} (h : i < xs.length) : ((xs.map mk).map bk).getD i 0 = bk (mk (xs.getD i 0)) := by simp [List.getD, h]
/-- the state behind the Lists -/
structure TSt (w wx : World) (p k m : Nat) (its : List (Int × Nat)) (ga gl n : Nat) (ya yl : List Int) : Prop where
  ring : RAt (two (Value.int .i64)) 68 70 wx p p k its m
  a : OwnI wx w.heap.size (.slice (some ⟨ga, 0, none⟩) n n) ya
  l : OwnI wx w.heap.size (.slice (some ⟨gl, 0, none⟩) n n) yl
  chg : Chg w wx (fun i => w.heap.size ≤ i)
  lo : w.heap.size ≤ p
  le : p ≤ wx.heap.size
theorem TSt.below {w wx w1 : World} {p k m ga gl n : Nat} {its : List (Int × Nat)} {ya yl : List Int} (h : TSt w wx p k m its ga gl n ya yl) (hb : Below wx.heap.size wx w1) : TSt w w1 p k m its ga gl n ya yl :=
  ⟨h.ring.below hb, h.a.below hb, h.l.below hb, h.chg.trans (Chg.ofBelow hb (fun _ => False)) (fun _ _ e => e.elim), h.lo, Nat.le_trans h.le hb.size⟩

set_option maxRecDepth 100000 in
set_option maxHeartbeats 3200000 in
theorem ringTwice_walk (z : Int) (A : Option Addr) (cap : Nat) (zs : List Int) (zb : Int) (w : World) (_ : inI64 z) (_ : ∀ y ∈ zs, inI64 y) (hA : IntsAt w w.heap.size A zs) (hl : zs.length ≤ maxLen) (_ : inI64 zb) :
    Calls Try.prog 6 #[.int .i64 z, .slice A zs.length cap, .int .i64 zb] w fun e w' => e = .returned (.bool true) ∧ Below w.heap.size w w' := by
  unfold maxLen at hl
  by_cases g1 : 100 < zs.length
  · clear hA
    go_enter Try.func6, Try.ntmps6
    go_wp2_with (go_at_call 7; refine (awake_any _).mono ?_; rintro e w' ⟨rfl, hg⟩)
    go_ret
    exact ⟨rfl, hg⟩
  obtain ⟨k, hk1, hk2, hk0⟩ := room_of z 1 200 (by omega) (by omega) (by omega)
  have hk : wrap64 (1 + wrap64 ((IntKind.u64.wrap z).tmod 200)) = (k : Int) := hk0
  obtain ⟨d, hd1, hd2, hd0⟩ := room_of zb 2 3 (by omega) (by omega) (by omega)
  have hd : wrap64 (2 + wrap64 ((IntKind.u64.wrap zb).tmod 3)) = (d : Int) := hd0
  have hmf : ∀ (fn : Fn) (first cap : Array Value) (w : World), (Instr.makeFunc fn first cap).run Try.prog w = .ok (.func fn first cap) w := fun _ _ _ _ => rfl
  have HK := Lib.hid hk; have HD := Lib.hid hd; clear hk hk0 hd hd0
  have HA := Lib.hid hA; clear hA
  go_enter Try.func6, Try.ntmps6
  go_wp2_with fail
  refine (awake_any _).mono ?_
  rintro e w0 ⟨rfl, hb0⟩
  have HB0 := Lib.hid hb0; clear hb0
  go_wp2_with fail
  rw [HK.out]
  refine (RI.new_any w0 k hk1 (by omega)).mono ?_
  rintro e w1 ⟨rfl, hr1, hb1⟩
  have hw : w.heap.size ≤ w0.heap.size := HB0.out.size
  have hw1 := hb1.size
  have hc1 : Chg w w1 (fun i => w.heap.size ≤ i) := (Chg.ofBelow HB0.out _).trans (Chg.ofBelow hb1 (fun _ => False)) (fun _ _ e => e.elim)
  generalize w0.heap.size = p at *
  have st : PSt w w1 p k 0 0 [] zs := ⟨hr1, by simp, hc1, hw, hw1⟩
  have ST := Lib.hid st; clear st hr1 hb1 hc1 HB0 hw1 HK
  go_wp2_with fail
  go_loopg [8] zs.length (fun gh s8 wx => ∃ (j m : Nat) (its : List (Int × Nat)), j ≤ zs.length ∧ gh = zs.length - j ∧ s8 = .int .i64 (j : Int) ∧ m ≤ j ∧ PSt w wx p k m j its zs)
  case atStart => exact ⟨0, 0, [], Nat.zero_le _, rfl, rfl, Nat.le_refl _, ST.out⟩
  case round =>
    obtain ⟨j, m, its, hj, hg, rfl, hm, hst⟩ := hrel
    have HG := Lib.hid hg; have KST := Lib.hid hst; clear hg hst ST
    have hlen := KST.out.length hj
    by_cases hlt : j < zs.length
    · have hbw := KST.out.chg.toBelow (Nat.le_refl _) (fun i hi e => by omega)
      obtain ⟨b1, o1, rfl, hb1, hc1⟩ := (HA.out.keep hbw) j hlt
      have b3 : (j : Int) < (zs.length : Int) := by omega
      have b4 : (0 : Int) ≤ (j : Int) := by omega
      have HLEN := Lib.hid hlen
      clear hbw hlen
      by_cases hfull : its.length < k
      · have cp := RI.push_any (zs.getD j 0) KST.out.ring KST.out.le hfull (by omega)
        have hpush := fun w1 hr hc => KST.out.push (w1 := w1) hlt hfull hr hc
        have CP := Lib.hid cp; have HP := Lib.hid hpush; clear cp hpush
        generalize zs.getD j 0 = x at *
        go_wp2_with fail
        refine CP.out.mono ?_
        rintro e w3 ⟨rfl, hr3, hc3⟩
        have ST3 := Lib.hid (HP.out w3 hr3 hc3); clear hr3 hc3
        go_wp2_with fail
        go_roundg (zs.length - (j + 1))
        case measure => have := HG.out; omega
        case rel => exact ⟨j + 1, m + 1, _, by omega, rfl, by go_num, by omega, ST3.out⟩
      · have hle := KST.out.ring.length
        have cp := RI.push_no (zs.getD j 0) KST.out.ring (by omega)
        have CP := Lib.hid cp; have ST3 := Lib.hid (KST.out.no hlt hfull); clear cp hle
        generalize zs.getD j 0 = x at *
        go_wp2_with fail
        refine CP.out.mono ?_
        rintro e w3 ⟨rfl, rfl⟩
        go_wp2_with fail
        go_roundg (zs.length - (j + 1))
        case measure => have := HG.out; omega
        case rel => exact ⟨j + 1, m, _, by omega, rfl, by go_num, by omega, ST3.out⟩
    · have hl1 : its.length ≤ 100 := by omega
      have cm := map1_any KST.out.ring (by omega) hk1
      unfold fmade MapTo at cm
      have CM := Lib.hid cm; clear cm hlen
      go_wp2_with fail
      refine CM.out.mono ?_
      rintro e w2 ⟨q, its1, m1, rfl, hmap1, hr2, hb2⟩
      have hl2 : its1.length = its.length := by
        have := congrArg List.length hmap1
        rw [List.length_map, List.length_map, List.length_map] at this
        exact this
      have cm2 := map2_any hr2 (by omega) hk1
      unfold fback MapTo2 at cm2
      have CM2 := Lib.hid cm2; have HM1 := Lib.hid hmap1; have HB2 := Lib.hid hb2; clear cm2 hmap1 hr2 hb2 CM
      go_wp2_with fail
      refine CM2.out.mono ?_
      rintro e w3 ⟨q2, its2, m2, rfl, hmap2, hr3, hb3⟩
      have hl3 : its2.length = its1.length := by
        have := congrArg List.length hmap2
        rw [List.length_map, List.length_map, List.length_map] at this
        exact this
      rw [HM1.out] at hmap2
      have cl := RI.list_any hr3
      have hb23 := HB2.out.trans (hb3.mono HB2.out.size)
      have CL := Lib.hid cl; have HM2 := Lib.hid hmap2; have HB3 := Lib.hid hb23; clear cl hmap2 hr3 hb3 hb23 CM2 HB2
      rw [hl3, hl2] at CL
      go_wp2_with fail
      refine CL.out.mono ?_
      rintro e w4 ⟨rfl, hrow4, hb4⟩
      have hsz : wr.heap.size ≤ w3.heap.size := HB3.out.size
      have hsw : w.heap.size ≤ wr.heap.size := KST.out.chg.size
      have hown4 : OwnI w4 w.heap.size (.slice (some ⟨w3.heap.size, 0, none⟩) its.length its.length) (its2.map (·.1)) := by
        have e : its.length = (its2.map (·.1)).length := by rw [List.length_map]; omega
        rw [e] at hrow4 ⊢
        exact hrow4.own (by omega) (by omega)
      have bb4 := HB3.out.trans (hb4.mono hsz)
      have r4 := KST.out.ring.below bb4
      have cl4 := RI.list_any r4
      have hc4 := KST.out.chg.trans (Chg.ofBelow bb4 (fun _ => False)) (fun _ _ e => e.elim)
      have R4 := Lib.hid r4; have CL4 := Lib.hid cl4; have OW4 := Lib.hid hown4; have HC4 := Lib.hid hc4; have HBB4 := Lib.hid bb4; clear r4 cl4 hown4 hc4 hrow4 hb4 bb4 CL HB3
      generalize w3.heap.size = ga at *
      go_wp2_with fail
      refine CL4.out.mono ?_
      rintro e w5 ⟨rfl, hrow5, hb5⟩
      have hw4 : w.heap.size ≤ w4.heap.size := HC4.out.size
      have hown5 : OwnI w5 w.heap.size (.slice (some ⟨w4.heap.size, 0, none⟩) its.length its.length) (its.map (·.1)) := by
        have e : its.length = (its.map (·.1)).length := by rw [List.length_map]
        have hr := hrow5
        rw [e] at hr
        have := hr.own (B := w.heap.size) hw4 (by rw [List.length_map]; omega)
        rw [← e] at this
        exact this
      have ts5 : TSt w w5 p k m its ga w4.heap.size its.length (its2.map (·.1)) (its.map (·.1)) :=
        ⟨R4.out.below hb5, OW4.out.below hb5, hown5, HC4.out.trans (Chg.ofBelow hb5 (fun _ => False)) (fun _ _ e => e.elim), KST.out.lo, Nat.le_trans (Nat.le_trans KST.out.le HBB4.out.size) hb5.size⟩
      generalize w4.heap.size = gl at *
      rw [HM2.out] at ts5
      have hxl : (its.map (·.1)).length = its.length := List.length_map ..
      have TS5 := Lib.hid ts5; clear ts5 hown5 hrow5 hb5 R4 CL4 OW4 HC4 HBB4 HM1 HM2 hl2 hl3 KST
      obtain ⟨xs, hxs⟩ : ∃ xs, its.map (·.1) = xs := ⟨_, rfl⟩
      rw [hxs] at TS5 hxl
      obtain ⟨n, hn⟩ : ∃ n, its.length = n := ⟨_, rfl⟩
      rw [hn] at TS5 hxl hl1 ⊢
      have HXS := Lib.hid hxs; have HN := Lib.hid hn; clear hxs hn
      have hx1 : xs.length ≤ n := by omega
      have hx2 : n ≤ xs.length := by omega
      clear hxl
      go_wp2_with fail
      go_loopg [11] n (fun gh s11 wx => ∃ j2 : Nat, j2 ≤ n ∧ gh = n - j2 ∧ s11 = .int .i64 (j2 : Int) ∧ TSt w wx p k m its ga gl n ((xs.map mk).map bk) xs)
      case atStart => exact ⟨0, Nat.zero_le _, rfl, rfl, TS5.out⟩
      case round =>
        obtain ⟨j2, hj2, hg2, rfl, hts⟩ := hrel
        have HG2 := Lib.hid hg2; have TS := Lib.hid hts; clear hg2 hts TS5
        by_cases hlt2 : j2 < n
        · have ca := TS.out.a.at (i := j2) (by rw [List.length_map, List.length_map]; omega)
          have cl := TS.out.l.at (i := j2) (by omega)
          rw [getD_map2 (by omega)] at ca
          have hga := (TS.out.a.lt rfl).2
          have hgl := (TS.out.l.lt rfl).2
          generalize xs.getD j2 0 = x at ca cl
          have CM := Lib.hid (fun W => made_any x W)
          have cb := fun W => back_any (mk x) W
          generalize hy : bk (mk x) = y at ca cb
          have CB := Lib.hid cb
          have b3 : (j2 : Int) < (n : Int) := by omega
          have b4 : (0 : Int) ≤ (j2 : Int) := by omega
          clear cb hy
          go_wp2_with fail
          go_region_held3 (fun w' => w'.cell? ⟨ga, j2, none⟩ = some (.int .i64 y) ∧ w'.cell? ⟨gl, j2, none⟩ = some (.int .i64 x))
            (first | go_keep | exact S4 | exact S6)
            (first
              | (go_at_call 23; (with_reducible refine (CM.out _).mono ?_); rintro e w4 ⟨rfl, hw4⟩; have hb4 : Below wr.heap.size wr w4 := (by rw [hw4]; exact (below_drewN (Below.refl _ _) 1).alloc (Nat.le_refl _) _); have S4 : w4.cell? ⟨ga, j2, none⟩ = some (.int .i64 y) ∧ w4.cell? ⟨gl, j2, none⟩ = some (.int .i64 x) := (by rw [hb4.cell (p := ⟨ga, j2, none⟩) hga, hb4.cell (p := ⟨gl, j2, none⟩) hgl]; exact ⟨ca, cl⟩); have HB4 := Lib.hid hb4; clear hb4 hw4)
              | (go_at_call 29; (with_reducible refine (CB.out _).mono ?_); rintro e w6 ⟨rfl, hw6⟩; have hb6 : Below wr.heap.size wr w6 := (by rw [hw6]; exact HB4.out.alloc HB4.out.size _); have S6 : w6.cell? ⟨ga, j2, none⟩ = some (.int .i64 y) ∧ w6.cell? ⟨gl, j2, none⟩ = some (.int .i64 x) := (by rw [hb6.cell (p := ⟨ga, j2, none⟩) hga, hb6.cell (p := ⟨gl, j2, none⟩) hgl]; exact ⟨ca, cl⟩); have TS6 := Lib.hid (TS.out.below hb6); clear hb6 hw6))
          all_goals go_wp2_with fail
          go_roundg (n - (j2 + 1))
          case measure => have := HG2.out; omega
          case rel => exact ⟨j2 + 1, by omega, rfl, by go_num, TS6.out⟩
        · have cl := RI.len_any TS.out.ring
          rw [HN.out] at cl
          have hb9 : Below wr.heap.size wr (wr.alloc (.cells #[.int .i64 (d : Int)] 42)) := (Below.refl _ _).alloc (Nat.le_refl _) _
          have ts9 := TS.out.below hb9
          have ao9 : At (wr.alloc (.cells #[.int .i64 (d : Int)] 42)) wr.heap.size 42 #[.int .i64 (d : Int)] := At.new wr 42 _
          obtain ⟨wb, hwb⟩ : ∃ wb, wr.alloc (.cells #[.int .i64 (d : Int)] 42) = wb := ⟨_, rfl⟩
          rw [hwb] at ts9 ao9
          have CL := Lib.hid cl; have TS9 := Lib.hid ts9; have AO9 := Lib.hid ao9; have HWB := Lib.hid hwb; clear cl hb9 ts9 ao9 hwb TS
          go_wp2_with fail
          refine CL.out.mono ?_
          rintro e w7 ⟨rfl, rfl⟩
          go_wp2_with fail
          rw [HD.out, HWB.out]
          generalize wr.heap.size = O at *
          clear HWB
          go_loopg [14, 15] n (fun gh s14 s15 wx => ∃ j3 : Nat, j3 ≤ n ∧ gh = n - j3 ∧ s15 = .int .i64 (j3 : Int) ∧ s14 = .int .i64 (gone (d : Int) (xs.take j3) : Int) ∧ TSt w wx p k m its ga gl n ((xs.map mk).map bk) xs ∧ At wx O 42 #[.int .i64 (d : Int)])
          case atStart => exact ⟨0, Nat.zero_le _, rfl, rfl, by rw [List.take_zero]; rfl, TS9.out, AO9.out⟩
          case round =>
            obtain ⟨j3, hj3, hg3, rfl, rfl, hts, hao⟩ := hrel
            have hgn := gone_le (d : Int) (xs.take j3)
            rw [List.length_take] at hgn
            have HG3 := Lib.hid hg3; have TS := Lib.hid hts; have AO := Lib.hid hao; clear hg3 hts hao TS9 AO9
            have co : wr.cell? ⟨O, 0, none⟩ = some (.int .i64 (d : Int)) := by rw [AO.out.cell]; rfl
            have lo := AO.out.lt
            by_cases hlt3 : j3 < n
            · have cl := TS.out.l.at (i := j3) (by omega)
              have hgl := (TS.out.l.lt rfl).2
              have htk := gone_take (by_ := (d : Int)) (xs := xs) (j := j3) (by omega)
              generalize xs.getD j3 0 = x at cl htk
              have ci := fun W => is_any (d : Int) x (by omega) (by omega) W
              have b3 : (j3 : Int) < (n : Int) := by omega
              have b4 : (0 : Int) ≤ (j3 : Int) := by omega
              cases hq : oddB (d : Int) x
              · rw [hq] at htk ci
                simp only [Bool.false_eq_true, if_false, Nat.add_zero] at htk
                have CI := Lib.hid ci; have HTK := Lib.hid htk; clear ci htk hq
                go_wp2_with fail
                go_region_held3 (fun w' => w'.cell? ⟨O, 0, none⟩ = some (.int .i64 (d : Int)) ∧ w'.cell? ⟨gl, j3, none⟩ = some (.int .i64 x))
                  (first | go_keep | exact S4)
                  (first
                    | (go_at_call 20; (with_reducible refine (CI.out _).mono ?_); rintro e w4 ⟨rfl, hw4⟩; have hb4 : Below wr.heap.size wr w4 := (by rw [hw4]; exact (below_drewN (Below.refl _ _) 1).alloc (Nat.le_refl _) _); have S4 : w4.cell? ⟨O, 0, none⟩ = some (.int .i64 (d : Int)) ∧ w4.cell? ⟨gl, j3, none⟩ = some (.int .i64 x) := (by rw [hb4.cell (p := ⟨O, 0, none⟩) lo, hb4.cell (p := ⟨gl, j3, none⟩) hgl]; exact ⟨co, cl⟩); have TS4 := Lib.hid (And.intro (TS.out.below hb4) (AO.out.below hb4 AO.out.lt)); clear hb4 hw4))
                all_goals go_wp2_with fail
                go_roundg (n - (j3 + 1))
                case measure => have := HG3.out; omega
                case rel => exact ⟨j3 + 1, by omega, rfl, by go_num, by rw [HTK.out], TS4.out⟩
              · rw [hq] at htk ci
                simp only [if_true] at htk
                have CI := Lib.hid ci; have HTK := Lib.hid htk; clear ci htk hq
                go_wp2_with fail
                go_region_held3 (fun w' => w'.cell? ⟨O, 0, none⟩ = some (.int .i64 (d : Int)) ∧ w'.cell? ⟨gl, j3, none⟩ = some (.int .i64 x))
                  (first | go_keep | exact S4)
                  (first
                    | (go_at_call 20; (with_reducible refine (CI.out _).mono ?_); rintro e w4 ⟨rfl, hw4⟩; have hb4 : Below wr.heap.size wr w4 := (by rw [hw4]; exact (below_drewN (Below.refl _ _) 1).alloc (Nat.le_refl _) _); have S4 : w4.cell? ⟨O, 0, none⟩ = some (.int .i64 (d : Int)) ∧ w4.cell? ⟨gl, j3, none⟩ = some (.int .i64 x) := (by rw [hb4.cell (p := ⟨O, 0, none⟩) lo, hb4.cell (p := ⟨gl, j3, none⟩) hgl]; exact ⟨co, cl⟩); have TS4 := Lib.hid (And.intro (TS.out.below hb4) (AO.out.below hb4 AO.out.lt)); clear hb4 hw4))
                all_goals go_wp2_with fail
                go_roundg (n - (j3 + 1))
                case measure => have := HG3.out; omega
                case rel => exact ⟨j3 + 1, by omega, rfl, by go_num, by rw [HTK.out]; go_num, TS4.out⟩
            · obtain rfl : j3 = n := by omega
              rw [List.take_of_length_le hx1] at hgn ⊢
              have hgs := gone_stays (d : Int) its
              rw [HXS.out, HN.out] at hgs
              have cp := drop_any TS.out.ring (d : Int) (by omega) (by omega) TS.out.le
              unfold DropTo fodd at cp
              have e1 : ((its.length : Int) - ((stays (d : Int) its).length : Int)) = (gone (d : Int) xs : Int) := by rw [HN.out]; omega
              rw [e1] at cp
              have CP := Lib.hid cp; have HGS := Lib.hid hgs; clear cp e1 hgs
              go_wp2_with fail
              refine CP.out.mono ?_
              rintro e w6 ⟨rfl, hr6, hc6⟩
              have ao6 := AO.out.ring hc6 (by decide) (by decide)
              have co6 : w6.cell? ⟨O, 0, none⟩ = some (.int .i64 (d : Int)) := by rw [ao6.cell]; rfl
              have hch6 := TS.out.chg.trans hc6 (fun i _ e => e.hi TS.out.lo)
              have le6 : p ≤ w6.heap.size := Nat.le_trans TS.out.le hc6.size
              have cl6 := RI.len_any hr6
              have cp6 := drop_any hr6 (d : Int) (by omega) (by omega) le6
              unfold DropTo fodd at cp6
              have e6 : (((stays (d : Int) its).length : Int) - ((stays (d : Int) (stays (d : Int) its)).length : Int)) = 0 := by rw [stays_twice]; omega
              rw [e6] at cp6
              have hgs := HGS.out
              generalize (stays (d : Int) its).length = s6 at cl6 hgs
              have e7 : ((s6 : Int) == (j3 : Int) - (gone (d : Int) xs : Int)) = true := by simp; omega
              have hlo := TS.out.lo
              have CL6 := Lib.hid cl6; have CP6 := Lib.hid cp6; have HC6 := Lib.hid hch6; clear cl6 cp6 hch6 hr6 hc6 ao6 e6 hgs CP HGS
              generalize gone (d : Int) xs = gn at *
              go_wp2_with fail
              refine CL6.out.mono ?_
              rintro e w7 ⟨rfl, rfl⟩
              go_wp2_with fail
              refine CP6.out.mono ?_
              rintro e w8 ⟨rfl, hr8, hc8⟩
              have HC8 := Lib.hid (HC6.out.trans hc8 (fun i _ e => e.hi hlo)); clear hr8 hc8
              go_wp2_with fail
              go_ret
              exact ⟨rfl, HC8.out.toBelow (Nat.le_refl _) (fun i hi e => by omega)⟩
end Go.Proofs.Ytenajaiedoigpaa
