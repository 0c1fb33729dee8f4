/- The walk of RingMaps: it returns true. -/
import Derived.Test.YtenajaiedoigpaaRingTwice
namespace Go.Proofs.Ytenajaiedoigpaa
open Go.RowKit Go.Lib Plain
attribute [local go_sem ↓] Go.wp_at_zero Go.wp_at_succ

theorem own_lit1 (w : World) {B : Nat} (x : Int) (hB : B ≤ w.heap.size) : OwnI (w.alloc (.cells #[.int .i64 x] 3)) B (.slice (some ⟨w.heap.size, 0, none⟩) 1 1) [x] := World.ownsRow_lit w #[.int .i64 x] 1 hB (by decide) rfl
/-- the ring, and the row of what stands there -/
structure LSt (w wx : World) (p k m : Nat) (its : List (Int × Nat)) (vl : Value) (xs : List Int) : Prop where
  ring : RAt (two (Value.int .i64)) 68 70 wx p p k its m
  l : OwnI wx w.heap.size vl xs
  chg : Chg w wx (fun i => w.heap.size ≤ i)
  lo : w.heap.size ≤ p
  le : p ≤ wx.heap.size
section
variable {w wx w1 : World} {p k m : Nat} {its : List (Int × Nat)} {vl : Value} {xs : List Int}
theorem LSt.below (h : LSt w wx p k m its vl xs) (hb : Below wx.heap.size wx w1) : LSt w w1 p k m its vl xs :=
  ⟨h.ring.below hb, h.l.below hb, h.chg.trans (Chg.ofBelow hb (fun _ => False)) (fun _ _ e => e.elim), h.lo, Nat.le_trans h.le hb.size⟩
theorem LSt.bel (h : LSt w wx p k m its vl xs) : Below w.heap.size w wx := h.chg.toBelow (Nat.le_refl _) (fun i hi e => by omega)
theorem LSt.alloc (h : LSt w wx p k m its vl xs) (o : Obj) : LSt w (wx.alloc o) p k m its vl xs := h.below ((Below.refl _ _).alloc (Nat.le_refl _) _)
end
theorem getD_take {zs : List Int} {n i : Nat} (h : i < n) : (zs.take n).getD i 0 = zs.getD i 0 := by simp [List.getD, h]
theorem getD_mk {xs : List Int} {i : Nat} (h : i < xs.length) : (xs.map mk).getD i (0, false) = mk (xs.getD i 0) := by simp [List.getD, h]

set_option maxRecDepth 100000 in
set_option maxHeartbeats 3200000 in
theorem ringMaps_walk (z : Int) (A : Option Addr) (cap : Nat) (zs : List Int) (w : World) (_ : inI64 z) (_ : ∀ y ∈ zs, inI64 y) (hA : IntsAt w w.heap.size A zs) (hl : zs.length ≤ maxLen) :
    Calls Try.prog 4 #[.int .i64 z, .slice A zs.length cap] w fun e w' => e = .returned (.bool true) ∧ Below w.heap.size w w' := by
  unfold maxLen at hl
  by_cases g1 : 100 < zs.length
  · clear hA
    go_enter Try.func4, Try.ntmps4
    go_wp2_with (go_at_call 7; refine (awake_any _).mono ?_; rintro e w' ⟨rfl, hg⟩)
    go_ret
    exact ⟨rfl, hg⟩
  obtain ⟨k, hk1, hk2, hk0⟩ := room_of z 1 200 (by omega) (by omega) (by omega)
  have hk : wrap64 (1 + wrap64 ((IntKind.u64.wrap z).tmod 200)) = (k : Int) := hk0
  have hmf : ∀ (fn : Fn) (first cap : Array Value) (w : World), (Instr.makeFunc fn first cap).run Try.prog w = .ok (.func fn first cap) w := fun _ _ _ _ => rfl
  have HK := Lib.hid hk; clear hk hk0
  have HA := Lib.hid hA; clear hA
  go_enter Try.func4, Try.ntmps4
  go_wp2_with fail
  refine (awake_any _).mono ?_
  rintro e w0 ⟨rfl, hb0⟩
  have HB0 := Lib.hid hb0; clear hb0
  go_wp2_with fail
  rw [HK.out]
  refine (RI.new_any w0 k hk1 (by omega)).mono ?_
  rintro e w1 ⟨rfl, hr1, hb1⟩
  have hw : w.heap.size ≤ w0.heap.size := HB0.out.size
  have hw1 := hb1.size
  have hc1 : Chg w w1 (fun i => w.heap.size ≤ i) := (Chg.ofBelow HB0.out _).trans (Chg.ofBelow hb1 (fun _ => False)) (fun _ _ e => e.elim)
  generalize w0.heap.size = p at *
  have st : PSt w w1 p k 0 0 [] zs := ⟨hr1, by simp, hc1, hw, hw1⟩
  have ST := Lib.hid st; clear st hr1 hb1 hc1 HB0 hw1 HK
  go_wp2_with fail
  go_loopg [7] zs.length (fun gh s7 wx => ∃ (j m : Nat) (its : List (Int × Nat)), j ≤ zs.length ∧ gh = zs.length - j ∧ s7 = .int .i64 (j : Int) ∧ m ≤ j ∧ PSt w wx p k m j its zs)
  case atStart => exact ⟨0, 0, [], Nat.zero_le _, rfl, rfl, Nat.le_refl _, ST.out⟩
  case round =>
    obtain ⟨j, m, its, hj, hg, rfl, hm, hst⟩ := hrel
    have HG := Lib.hid hg; have KST := Lib.hid hst; clear hg hst ST
    have hlen := KST.out.length hj
    by_cases hlt : j < zs.length
    · have hbw := KST.out.chg.toBelow (Nat.le_refl _) (fun i hi e => by omega)
      obtain ⟨b1, o1, rfl, hb1, hc1⟩ := (HA.out.keep hbw) j hlt
      have b3 : (j : Int) < (zs.length : Int) := by omega
      have b4 : (0 : Int) ≤ (j : Int) := by omega
      have HLEN := Lib.hid hlen
      clear hbw hlen
      by_cases hfull : its.length < k
      · have cp := RI.push_any (zs.getD j 0) KST.out.ring KST.out.le hfull (by omega)
        have hpush := fun w1 hr hc => KST.out.push (w1 := w1) hlt hfull hr hc
        have CP := Lib.hid cp; have HP := Lib.hid hpush; clear cp hpush
        generalize zs.getD j 0 = x at *
        go_wp2_with fail
        refine CP.out.mono ?_
        rintro e w3 ⟨rfl, hr3, hc3⟩
        have ST3 := Lib.hid (HP.out w3 hr3 hc3); clear hr3 hc3
        go_wp2_with fail
        go_roundg (zs.length - (j + 1))
        case measure => have := HG.out; omega
        case rel => exact ⟨j + 1, m + 1, _, by omega, rfl, by go_num, by omega, ST3.out⟩
      · have hle := KST.out.ring.length
        have cp := RI.push_no (zs.getD j 0) KST.out.ring (by omega)
        have CP := Lib.hid cp; have ST3 := Lib.hid (KST.out.no hlt hfull); clear cp hle
        generalize zs.getD j 0 = x at *
        go_wp2_with fail
        refine CP.out.mono ?_
        rintro e w3 ⟨rfl, rfl⟩
        go_wp2_with fail
        go_roundg (zs.length - (j + 1))
        case measure => have := HG.out; omega
        case rel => exact ⟨j + 1, m, _, by omega, rfl, by go_num, by omega, ST3.out⟩
    · have hn : its.length = min k zs.length := by omega
      have hhas := KST.out.has
      have hj9 : min k j = min k zs.length := by omega
      rw [hj9] at hhas
      have hl1 : its.length ≤ 100 := by omega
      have cl := RI.list_any KST.out.ring
      have CL := Lib.hid cl; have HN := Lib.hid hn; have HHAS := Lib.hid hhas; clear cl hlen hn hhas hj9
      go_wp2_with fail
      refine CL.out.mono ?_
      rintro e w2 ⟨rfl, hrow2, hb2⟩
      have hsw : w.heap.size ≤ wr.heap.size := KST.out.chg.size
      have hxl : (its.map (·.1)).length = its.length := List.length_map ..
      have hown2 : OwnI w2 w.heap.size (.slice (some ⟨wr.heap.size, 0, none⟩) its.length its.length) (its.map (·.1)) := by
        have hr := hrow2
        rw [← hxl] at hr
        have := hr.own (B := w.heap.size) hsw (by omega)
        rw [hxl] at this
        exact this
      have ls2 : LSt w w2 p k m its (.slice (some ⟨wr.heap.size, 0, none⟩) its.length its.length) (its.map (·.1)) :=
        ⟨KST.out.ring.below hb2, hown2, KST.out.chg.trans (Chg.ofBelow hb2 (fun _ => False)) (fun _ _ e => e.elim), KST.out.lo, Nat.le_trans KST.out.le hb2.size⟩
      generalize wr.heap.size = gl at *
      have cm := map1_any ls2.ring (by omega) hk1
      unfold fmade MapTo at cm
      have CM := Lib.hid cm; have LS2 := Lib.hid ls2; clear cm ls2 hown2 hrow2 hb2 CL KST
      go_wp2_with fail
      refine CM.out.mono ?_
      rintro e w3 ⟨q, its1, m1, rfl, hmap1, hr3, hb3⟩
      have hl2 : its1.length = its.length := by
        have := congrArg List.length hmap1
        rw [List.length_map, List.length_map, List.length_map] at this
        exact this
      have cl3 := RP.list_any hr3
      rw [hmap1, hl2] at cl3
      have CL3 := Lib.hid cl3; have LS3 := Lib.hid (LS2.out.below hb3); have R3 := Lib.hid hr3; clear cl3 hmap1 hr3 hb3 CM LS2 hl2
      go_wp2_with fail
      refine CL3.out.mono ?_
      rintro e w4 ⟨rfl, hrow4, hb4⟩
      have cr4 := RP.room_any (R3.out.below hb4)
      have CR4 := Lib.hid cr4; have LS4 := Lib.hid (LS3.out.below hb4); have HROW := Lib.hid hrow4; clear cr4 hrow4 hb4 LS3 CL3 R3
      generalize w3.heap.size = gp at *
      obtain ⟨xs, hxs⟩ : ∃ xs, its.map (·.1) = xs := ⟨_, rfl⟩
      rw [hxs] at LS4 HROW hxl HHAS
      obtain ⟨n, hn⟩ : ∃ n, its.length = n := ⟨_, rfl⟩
      rw [hn] at LS4 HROW hxl hl1 HN ⊢
      have hmin : min (k : Int) (zs.length : Int) = (n : Int) := by have := HN.out; omega
      have hx1 : xs.length ≤ n := by omega
      have hx2 : n ≤ xs.length := by omega
      have hnz : n ≤ zs.length := by have := HN.out; omega
      have HNI := Lib.hid hn; have HXS := Lib.hid hxs; clear hxl hxs hn
      go_wp2_with fail
      refine CR4.out.mono ?_
      rintro e w5 ⟨rfl, rfl⟩
      go_wp2_with fail
      go_loopg [11] n (fun gh s11 wx => ∃ j2 : Nat, j2 ≤ n ∧ gh = n - j2 ∧ s11 = .int .i64 (j2 : Int) ∧ LSt w wx p k m its (.slice (some ⟨gl, 0, none⟩) n n) xs ∧ RP.Row wx gp n n (xs.map mk))
      case atStart => exact ⟨0, Nat.zero_le _, rfl, rfl, LS4.out, HROW.out⟩
      case round =>
        obtain ⟨j2, hj2, hg2, rfl, hls, hrw⟩ := hrel
        have HG2 := Lib.hid hg2; have LS := Lib.hid hls; have RW := Lib.hid hrw; clear hg2 hls hrw LS4 HROW
        by_cases hlt2 : j2 < n
        · obtain ⟨b1, o1, rfl, hb1, hc1⟩ := (HA.out.keep LS.out.bel) j2 (by omega)
          obtain ⟨cp0, cp1⟩ := RW.out.at (i := j2) hlt2 (by rw [List.length_map]; omega)
          have hgx : (xs.map mk).getD j2 (0, false) = mk (zs.getD j2 0) := by
            rw [getD_mk (by omega), HHAS.out, getD_take (by have := HN.out; omega)]
          rw [hgx] at cp0 cp1
          have hgp : gp < wr.heap.size := by obtain ⟨arr, ha, _⟩ := RW.out; exact ha.lt
          have hbs : b1 < wr.heap.size := by have := LS.out.chg.size; omega
          generalize zs.getD j2 0 = x at hc1 cp0 cp1
          have CM := Lib.hid (fun W => made_any x W)
          have b3 : (j2 : Int) < (n : Int) := by omega
          have b4 : (0 : Int) ≤ (j2 : Int) := by omega
          have b5 : (j2 : Int) < (zs.length : Int) := by omega
          clear hgx
          go_wp2_with fail
          go_region_held3 (fun w' => w'.cell? ⟨gp, j2 * 2, none⟩ = some (.int .i64 (mk x).1) ∧ w'.cell? ⟨gp, j2 * 2 + 1, none⟩ = some (.bool (mk x).2) ∧ w'.cell? ⟨b1, o1 + j2, none⟩ = some (.int .i64 x))
            (first | go_keep | exact S4)
            (first
              | (go_at_call 23; (with_reducible refine (CM.out _).mono ?_); rintro e w4 ⟨rfl, hw4⟩; have hb4 : Below wr.heap.size wr w4 := (by rw [hw4]; exact (below_drewN (Below.refl _ _) 1).alloc (Nat.le_refl _) _); have S4 : w4.cell? ⟨gp, j2 * 2, none⟩ = some (.int .i64 (mk x).1) ∧ w4.cell? ⟨gp, j2 * 2 + 1, none⟩ = some (.bool (mk x).2) ∧ w4.cell? ⟨b1, o1 + j2, none⟩ = some (.int .i64 x) := (by rw [hb4.cell (p := ⟨gp, j2 * 2, none⟩) hgp, hb4.cell (p := ⟨gp, j2 * 2 + 1, none⟩) hgp, hb4.cell (p := ⟨b1, o1 + j2, none⟩) hbs]; exact ⟨cp0, cp1, hc1⟩); have LS4 := Lib.hid (And.intro (LS.out.below hb4) (RW.out.below hb4)); clear hb4 hw4))
          all_goals go_wp2_with fail
          go_roundg (n - (j2 + 1))
          case measure => have := HG2.out; omega
          case rel => exact ⟨j2 + 1, by omega, rfl, by go_num, LS4.out⟩
        · have hl5 : its.length + 1 ≤ 1000 := by have := HNI.out; omega
          have hxn : its.length ≤ 100 := by have := HNI.out; omega
          obtain ⟨wa, hwa⟩ : ∃ wa, wr.alloc (.cells #[.int .i64 7] 3) = wa := ⟨_, rfl⟩
          have lsa := LS.out.alloc (.cells #[.int .i64 7] 3)
          have ola := own_lit1 wr (B := w.heap.size) 7 LS.out.chg.size
          rw [hwa] at lsa ola
          have cf := fold_any lsa.ring ola lsa.chg.size (by simp; omega)
          rw [HXS.out] at cf
          unfold fadd at cf
          have HWA := Lib.hid hwa; have LSA := Lib.hid lsa; have CF := Lib.hid cf; clear hwa lsa ola cf RW LS
          go_wp2_with fail
          rw [HWA.out]
          refine CF.out.mono ?_
          rintro e w5 ⟨v5, rfl, ho5, hb5⟩
          have ls5 := LSA.out.below hb5
          obtain ⟨O5, a5, c5, rfl⟩ : ∃ O la lb, v5 = .slice O la lb := by
            rcases ho5.form with rfl | ⟨g, c, rfl⟩
            · exact ⟨_, _, _, rfl⟩
            · exact ⟨_, _, _, rfl⟩
          have hbn : Below w5.heap.size w5 (w5.alloc (.cells #[.int .i64 7] 3)) := (Below.refl _ _).alloc (Nat.le_refl _) _
          have ls6 := ls5.below hbn
          have ho6 := ho5.below hbn
          obtain ⟨v7, w7, hr7, ho7, hg7, _⟩ := append_ints 30 (own_lit1 w5 (B := w5.heap.size) 7 (Nat.le_refl _)) ls6.l.src (by simp; omega) (by simp)
          have hb7 : Below w5.heap.size w5 w7 := hbn.grown hg7 (by simp) (fun k hk => by simp [Value.ownBlock] at hk; omega)
          have ls7 := ls5.below hb7
          have ho57 := ho5.below hb7
          have ci := ints_any (zs := 7 :: xs) ho57.sl ho7.sl (by simp; omega)
          have HR7 := Lib.hid hr7; have LS7 := Lib.hid ls7; have CI := Lib.hid ci; clear hr7 ls7 ci ho7 hg7 hb7 ho57 ls6 ho6 ls5 hbn ho5 hb5 LSA CF HWA
          go_wp2_with (at_builtin; (refine Lib.wpList_append_run _ rfl (.tmp 85) (.tmp 86) 30 30 rfl _ _ rfl rfl v7 w7 HR7.out ?_))
          refine CI.out.mono ?_
          rintro e w8 ⟨rfl, hb8⟩
          have LS8 := Lib.hid (LS7.out.below hb8); clear hb8 LS7 CI HR7
          go_wp2_with fail
          refine (map1_nil _ _).mono ?_
          rintro e w9 ⟨rfl, hb9⟩
          have LS9 := Lib.hid (LS8.out.below hb9); clear hb9 LS8
          go_wp2_with fail
          refine (map1_nilf _ _).mono ?_
          rintro e w10 ⟨rfl, hb10⟩
          have LS10 := Lib.hid (LS9.out.below hb10); clear hb10 LS9
          go_wp2_with fail
          refine (fold_nil _ _ _ _ _).mono ?_
          rintro e w11 ⟨rfl, hb11⟩
          have LS11 := Lib.hid ((LS10.out.alloc (.cells #[] 3)).below hb11); clear hb11 LS10
          go_wp2_with fail
          refine (fold_nilf _ _ _ _ _).mono ?_
          rintro e w12 ⟨rfl, hb12⟩
          have ol12 := (own_lit1 w11 (B := w.heap.size) 3 LS11.out.chg.size).below hb12
          have ls12 := (LS11.out.alloc (.cells #[.int .i64 3] 3)).below hb12
          have hbn : Below w12.heap.size w12 (w12.alloc (.cells #[.int .i64 3] 3)) := (Below.refl _ _).alloc (Nat.le_refl _) _
          have ci := ints_any (zs := [3]) (ol12.below hbn).sl (own_lit1 w12 (B := w12.heap.size) 3 (Nat.le_refl _)).sl (by simp)
          have CI := Lib.hid ci; have LS13 := Lib.hid (ls12.below hbn); clear ci ls12 ol12 hb12 hbn LS11
          go_wp2_with fail
          refine CI.out.mono ?_
          rintro e w14 ⟨rfl, hb14⟩
          have LS14 := Lib.hid (LS13.out.below hb14); clear hb14 LS13 CI
          go_wp2_with fail
          refine (drop_nilf _ _).mono ?_
          rintro e w15 ⟨rfl, rfl⟩
          go_wp2_with fail
          refine (drop_nil _ _).mono ?_
          rintro e w16 ⟨rfl, rfl⟩
          go_wp2_with fail
          go_ret
          exact ⟨rfl, LS14.out.bel⟩
end Go.Proofs.Ytenajaiedoigpaa
