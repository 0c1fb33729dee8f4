/- BookGoes: the walk. -/
import Derived.Test.YtodacdooooeofaaGreatRbM
import Derived.Deep.CutBlock
namespace Go.Proofs.YtodacdooooeofaaGreat
open Go.RowKit Go.Lib
open Sh.Plain (KV put del Rise)
set_option linter.unusedVariables false
set_option linter.unusedSimpArgs false

def NvAt (n : Int) (v : Value) (w : World) : Prop := ∃ x : Cg, v = x.V ∧ x.ix = n
theorem NvAt.keep {n : Int} {v : Value} {w w' : World} (h : NvAt n v w) (hb : Below w.heap.size w w') : NvAt n v w' := h
/-- the blocks of a round -/
structure ZS (w wx : World) (g q7 q8 q12 r11 g9 : Nat) (c : Cfg) (b d : Bk) (o p o2 p2 : Option Addr) (u : U) (s t : Sl) (x : Cg) (y : Dd) : Prop where
  xs : XS w wx g q7 q8 c b o p u s t
  dk : BkAt wx q12 d o2 p2
  da : BAt wx d o2 p2
  ck : CgAt wx r11 x
  dd : DdAt wx g9 y
  ne : q7 ≠ q12
  lo : w.heap.size ≤ q12 ∧ w.heap.size ≤ r11
section
variable {w W W' : World} {g q7 q8 q12 r11 g9 : Nat} {c : Cfg} {b d : Bk} {o p o2 p2 : Option Addr} {u v : U} {s t s2 t2 : Sl} {x : Cg} {y : Dd}
theorem ZS.step (h : ZS w W g q7 q8 q12 r11 g9 c b d o p o2 p2 u s t x y) (hb : Below W.heap.size W W') : ZS w W' g q7 q8 q12 r11 g9 c b d o p o2 p2 u s t x y :=
  ⟨h.xs.step hb, At.step h.dk hb, h.da.step hb, At.step h.ck hb, At.step h.dd hb, h.ne, h.lo⟩
theorem ZS.put_dk (h : ZS w W g q7 q8 q12 r11 g9 c b d o p o2 p2 u s t x y) {b9 : Bk} {o9 p9 : Option Addr} (hd : BAt W b9 o9 p9) : ZS w (W.setRow q12 (b9.cells o9 p9)) g q7 q8 q12 r11 g9 c b b9 o p o9 p9 u s t x y :=
  ⟨⟨setRow_below h.xs.bel h.lo.1 _, At.farRow h.xs.cat (At.ne h.xs.cat h.dk (by decide)), At.farRow h.xs.bk h.ne, h.xs.at_.farRow h.dk (by decide) (by decide), At.farRow h.xs.uk (At.ne h.xs.uk h.dk (by decide)), h.xs.ua.farRow h.dk (by decide), h.xs.lo⟩,
   At.setRow h.dk _, hd.farRow h.dk (by decide) (by decide), At.farRow h.ck (At.ne h.ck h.dk (by decide)), At.farRow h.dd (At.ne h.dd h.dk (by decide)), h.ne, h.lo⟩
theorem ZS.put_ck (h : ZS w W g q7 q8 q12 r11 g9 c b d o p o2 p2 u s t x y) (x9 : Cg) : ZS w (W.setRow r11 x9.cells) g q7 q8 q12 r11 g9 c b d o p o2 p2 u s t x9 y :=
  ⟨⟨setRow_below h.xs.bel h.lo.2 _, At.farRow h.xs.cat (At.ne h.xs.cat h.ck (by decide)), At.farRow h.xs.bk (At.ne h.xs.bk h.ck (by decide)), h.xs.at_.farRow h.ck (by decide) (by decide), At.farRow h.xs.uk (At.ne h.xs.uk h.ck (by decide)), h.xs.ua.farRow h.ck (by decide), h.xs.lo⟩,
   At.farRow h.dk (At.ne h.dk h.ck (by decide)), h.da.farRow h.ck (by decide) (by decide), At.setRow h.ck _, At.farRow h.dd (At.ne h.dd h.ck (by decide)), h.ne, h.lo⟩
/-- both books, stored -/
theorem XS.put_bk (h : XS w W g q7 q8 c b o p u s t) {b9 : Bk} {o9 p9 : Option Addr} (hd : BAt W b9 o9 p9) : XS w (W.setRow q7 (b9.cells o9 p9)) g q7 q8 c b9 o9 p9 u s t :=
  ⟨setRow_below h.bel h.lo.1 _, At.farRow h.cat (At.ne h.cat h.bk (by decide)), At.setRow h.bk _, hd.farRow h.bk (by decide) (by decide), At.farRow h.uk (At.ne h.uk h.bk (by decide)), h.ua.farRow h.bk (by decide), h.lo⟩
theorem XS.put_uk (h : XS w W g q7 q8 c b o p u s t) {u9 : U} {s9 t9 : Sl} (hd : UAt W u9 s9 t9) : XS w (W.setRow q8 (u9.cells s9 t9)) g q7 q8 c b o p u9 s9 t9 :=
  ⟨setRow_below h.bel h.lo.2 _, At.farRow h.cat (At.ne h.cat h.uk (by decide)), At.farRow h.bk (At.ne h.bk h.uk (by decide)), h.at_.farRow h.uk (by decide) (by decide), At.setRow h.uk _, hd.farRow h.uk (by decide), h.lo⟩
end
/-- what is known of a change and what the program's book answered -/
structure ResG (b : Bk) (u : U) (j : Nat) (d : Bk) (x : Cg) (e : Int) (v : U) (f : Int) : Prop where
  eq : applyU u x = (v, f)
  ok : e = 0 → f = 0 ∧ Rel d v ∧ Tie d v (j + 1)
  no : e ≠ 0 → x = zg ∨ f ≠ 0
theorem ResG.place {b : Bk} {u : U} {j : Nat} {x : K} {n m : Int} {d : Bk} {ch : Cg} {e : Int} (h : Tie b u j) (hj : j ≤ 100) (hp : placeB b x n m = (d, ch, e)) : ∃ v f, ResG b u j d ch e v f := by
  by_cases he : e = 0
  · subst he
    have ha := place_apply hp
    have hx := (applyB_ok ha).2.1
    have hu := h.uix; have hix := h.rel.ix
    have hb := apply_both h hj (x := ch) (by unfold inI64; omega)
    rw [ha] at hb
    refine ⟨_, _, rfl, fun _ => ⟨hb.snd.symm, hb.rel, hb.tie rfl⟩, fun e => absurd rfl e⟩
  · have h2 := (placeB_err (b := b) (x := x) (n := n) (m := m) (by rw [hp]; exact he)).2
    rw [hp] at h2
    exact ⟨_, _, rfl, fun e2 => absurd e2 he, fun _ => .inl h2⟩
theorem ResG.apply {b : Bk} {u : U} {j : Nat} {x : Cg} {d : Bk} {e : Int} (h : Tie b u j) (hj : j ≤ 100) (hx : x.ix = u.ix + 1) (hp : applyB b x = (d, e)) : ∃ v f, ResG b u j d x e v f := by
  have hu := h.uix
  have hb := apply_both h hj (x := x) (by unfold inI64; omega)
  rw [hp] at hb
  have hs : e = (applyU u x).2 := hb.snd
  exact ⟨_, _, rfl, fun he => ⟨hs ▸ he, hb.rel, hb.tie he⟩, fun he => .inr (hs ▸ he)⟩
set_option maxRecDepth 100000 in
set_option maxHeartbeats 16000000 in
theorem goes_walk (c : Cfg) (A : Option Addr) (cap : Nat) (ds : List Dd) (A2 : Option Addr) (cap2 : Nat) (zs : List Int) (w : World) (hA : DdsAt w w.heap.size A ds) (hl : ds.length ≤ maxLen) (hZ : IntsAt w w.heap.size A2 zs) (hl2 : zs.length ≤ maxLen) : Calls Tryz.prog 4 #[c.V, .slice A ds.length cap, .slice A2 zs.length cap2] w (Yes w true) := by
  have H := Lib.hid (new1 w c.cells 24)
  have HA := Lib.hid hA; have HZZ := Lib.hid hZ; clear hA hZ
  have HL : Hid (ds.length ≤ 9223372036854775807) := Lib.hid (by unfold maxLen at hl; omega)
  clear hl hl2
  obtain ⟨N, hN⟩ : ∃ N, ds.length = N := ⟨_, rfl⟩
  rw [hN] at HL ⊢
  have HN := Lib.hid hN; clear hN
  obtain ⟨M, hM⟩ : ∃ M, zs.length = M := ⟨_, rfl⟩
  rw [hM]
  have HM := Lib.hid hM; clear hM
  have CA := Lib.hid awake_any
  have CG := Lib.hid (fun W => good_any c W)
  have CN := Lib.hid (newBook_any c)
  have CV := Lib.hid (newU_any c)
  cases hok : okc c
  · rw [hok] at CG
    clear hok
    go_enter Tryz.func4, Tryz.ntmps4
    go_upto_region 1 with fail
    obtain ⟨W, hW⟩ : ∃ W, w.alloc (.cells c.cells 24) = W := ⟨_, rfl⟩
    rw [hW] at H ⊢; clear hW
    go_upto_region 3 with (go_at_call 5; (with_reducible refine (CA.out _).mono ?_); rintro e W1 ⟨rfl, hb1⟩)
    have HC : Hid (CAt W1 w.heap.size c) := Lib.hid (At.step H.out.2 hb1)
    have HB := Lib.hid (H.out.1.trans (hb1.mono H.out.1.size)); clear H CA hb1
    go_wp2_with ((with_reducible apply wpList_load_cat (h := HC.out)); exact rfl; exact rfl; exact rfl)
    refine (CG.out _).mono ?_
    rintro e W2 ⟨rfl, hb2⟩
    have HB2 := Lib.hid (HB.out.trans (hb2.mono HB.out.size))
    go_wp2_with fail
    go_ret
    exact ⟨rfl, HB2.out⟩
  rw [hok] at CG
  clear hok
  go_enter Tryz.func4, Tryz.ntmps4
  go_upto_region 1 with fail
  obtain ⟨W, hW⟩ : ∃ W, w.alloc (.cells c.cells 24) = W := ⟨_, rfl⟩
  rw [hW] at H ⊢; clear hW
  go_upto_region 3 with (go_at_call 5; (with_reducible refine (CA.out _).mono ?_); rintro e W1 ⟨rfl, hb1⟩)
  have HC0 : Hid (CAt W1 w.heap.size c) := Lib.hid (At.step H.out.2 hb1)
  have HB0 := Lib.hid (H.out.1.trans (hb1.mono H.out.1.size)); clear H CA hb1
  go_upto_region 5 with (first | ((with_reducible apply wpList_load_cat (h := HC0.out)); exact rfl; exact rfl; exact rfl) | (go_at_call 19; (with_reducible refine (CG.out _).mono ?_); rintro e W1b ⟨rfl, hb1b⟩))
  have HC := Lib.hid (At.step HC0.out hb1b); have HB := Lib.hid (HB0.out.trans (hb1b.mono HB0.out.size)); clear HC0 HB0 hb1b CG
  go_upto_region 6 with (first | ((with_reducible apply wpList_load_cat (h := HC.out)); exact rfl; exact rfl; exact rfl) | (go_at_call 6; (with_reducible refine (CN.out _).mono ?_); rintro e v0 ⟨o0, p0, rfl, ha0, hb0⟩) | ((with_reducible apply wpList_store_bknew (b := newB c) (s := o0) (t := p0)); exact rfl; exact rfl; exact rfl; exact rfl))
  have hbn := below_new v0 (.cells ((newB c).cells o0 p0) 32)
  have hk0 := At.new v0 32 ((newB c).cells o0 p0)
  have hc0 := At.step (At.step HC.out hb0) hbn
  have hB0 := HB.out.trans ((hb0.trans (hbn.mono hb0.size)).mono HB.out.size)
  have ha1 := BAt.step ha0 hbn
  have lq : w.heap.size ≤ v0.heap.size := Nat.le_trans HB.out.size hb0.size
  obtain ⟨W2, hW⟩ : ∃ W2, v0.alloc (.cells ((newB c).cells o0 p0) 32) = W2 := ⟨_, rfl⟩
  rw [hW] at hbn hk0 hc0 hB0 ha1 ⊢; clear hW ha0 hb0 hbn
  generalize v0.heap.size = q7 at *
  have HC2 := Lib.hid hc0; have HK2 := Lib.hid hk0; have HB2 := Lib.hid hB0; have HA2 := Lib.hid ha1; have HLQ := Lib.hid lq
  clear hc0 hk0 hB0 ha1 lq HC HB CN
  go_upto_region 7 with (first | ((with_reducible apply wpList_load_cat (h := HC2.out)); exact rfl; exact rfl; exact rfl) | (go_at_call 7; (with_reducible refine (CV.out _).mono ?_); rintro e v1 ⟨s1, t1, rfl, hu1, hb1⟩) | ((with_reducible apply wpList_store_unew (c := newU c) (s := s1) (t := t1)); exact rfl; exact rfl; exact rfl; exact rfl))
  have hbn := below_new v1 (.cells ((newU c).cells s1 t1) 36)
  have hb2 := hb1.trans (hbn.mono hb1.size)
  have hxs : XS w (v1.alloc (.cells ((newU c).cells s1 t1) 36)) w.heap.size q7 v1.heap.size c (newB c) o0 p0 (newU c) s1 t1 :=
    ⟨HB2.out.trans (hb2.mono HB2.out.size), At.step HC2.out hb2, At.step HK2.out hb2, BAt.step HA2.out hb2, At.new v1 36 _, hu1.step hbn, ⟨HLQ.out, Nat.le_trans HB2.out.size hb1.size⟩⟩
  obtain ⟨W3, hW⟩ : ∃ W3, v1.alloc (.cells ((newU c).cells s1 t1) 36) = W3 := ⟨_, rfl⟩
  rw [hW] at hxs ⊢; clear hW hu1 hb1 hbn hb2 HC2 HK2 HB2 HA2 HLQ CV
  generalize v1.heap.size = q8 at *
  have HXS0 := Lib.hid hxs; clear hxs
  have HTIE := Lib.hid (Tie.new c)
  generalize newB c = b0 at *
  generalize newU c = u0 at *
  go_wp2_with fail
  go_loopg [9] N (fun gh s9 wx => ∃ (j : Nat) (b : Bk) (o p : Option Addr) (u : U) (s t : Sl), j ≤ N ∧ j ≤ 60 ∧ gh = N - j ∧ s9 = .int .i64 (j : Int) ∧ XS w wx w.heap.size q7 q8 c b o p u s t ∧ Tie b u j)
  case atStart => exact ⟨0, b0, o0, p0, u0, s1, t1, Nat.zero_le _, by omega, rfl, rfl, HXS0.out, HTIE.out⟩
  case round =>
    obtain ⟨j, b, o, p, u, s, t, hj, hj60, hg, rfl, hxs, htie⟩ := hrel
    have HG0 := Lib.hid hg; clear hg HXS0 HTIE
    have HXS := Lib.hid hxs; have HTIE := Lib.hid htie; clear hxs htie
    have b4 : (0 : Int) ≤ (j : Int) := by omega
    by_cases hlt : j < N ∧ j < 60
    · obtain ⟨b1, o1, rfl, l1, k1⟩ := HA.out j (by rw [HN.out]; exact hlt.1)
      have b3 : (j : Int) < (N : Int) := by omega
      have b6 : (j : Int) < 60 := by omega
      have HJ := Lib.hid hlt; clear hlt
      have KR := Lib.hid (rng_below k1 l1 HXS.out.bel)
      clear k1 l1
      generalize ds.getD j zd = y at *
      go_upto_region 11 with (first | ((with_reducible apply wpList_load_dd (y := y) (h := KR.out)); exact rfl; exact rfl; exact rfl) | ((with_reducible apply wpList_store_ddnew (c := y)); exact rfl; exact rfl; exact rfl; exact rfl))
      have bd := below_new wr (.cells y.cells 44)
      have HDD0 := At.new wr 44 y.cells
      obtain ⟨V1, hW⟩ : ∃ V1, wr.alloc (.cells y.cells 44) = V1 := ⟨_, rfl⟩
      rw [hW] at bd HDD0 ⊢; clear hW KR
      have HX1 := Lib.hid (HXS.out.step bd); have HD1 : Hid (DdAt V1 wr.heap.size y) := Lib.hid HDD0
      clear HXS bd HDD0
      generalize wr.heap.size = g9 at *
      go_upto_region 12 with (first | ((with_reducible apply wpList_build_zg); exact rfl; exact rfl) | ((with_reducible apply wpList_store_cgnew (c := zg)); exact rfl; exact rfl; exact rfl; exact rfl))
      have bd := below_new V1 (.cells zg.cells 42)
      have HCK0 := At.new V1 42 zg.cells
      have lr : w.heap.size ≤ V1.heap.size := HX1.out.bel.size
      obtain ⟨V2, hW⟩ : ∃ V2, V1.alloc (.cells zg.cells 42) = V2 := ⟨_, rfl⟩
      rw [hW] at bd HCK0 ⊢; clear hW
      have HX2 := Lib.hid (HX1.out.step bd); have HD2 : Hid (DdAt V2 g9 y) := Lib.hid (At.step HD1.out bd); have HC2 : Hid (CgAt V2 V1.heap.size zg) := Lib.hid HCK0; have HLR := Lib.hid lr
      clear HX1 HD1 bd HCK0 lr
      generalize V1.heap.size = r11 at *
      have HG := Lib.hid HX2.out.bk; have HX := Lib.hid HD2.out.x
      have k9 := HD2.out.k9; have k10 := HD2.out.k10
      have CP := Lib.hid (placeBk_any (x := y.x) (n := y.n) (m := y.m) HX2.out.at_ HTIE.out.ok)
      obtain ⟨⟨d, x, e⟩, hpl⟩ : ∃ r, placeB b y.x y.n y.m = r := ⟨_, rfl⟩
      rw [hpl] at CP
      have hj1 : j ≤ 100 := by omega
      obtain ⟨v9, f9, hrg⟩ := ResG.place HTIE.out hj1 hpl
      have HRG := Lib.hid hrg; have HJ1 := Lib.hid hj1
      clear hpl hrg hj1
      go_wp2_with (first | ((with_reducible apply wpList_load_bk (h := HG.out)); exact rfl; exact rfl; exact rfl) | ((with_reducible apply wpList_load_kpart (c := y.x) (h := HX.out)); exact rfl; exact rfl; exact rfl))
      with_reducible refine CP.out.mono ?_
      rintro e0 w6 ⟨o6, p6, rfl, ha6, hb6⟩
      have ha6 : BAt w6 d o6 p6 := ha6
      have hbn := below_new w6 (.cells (d.cells o6 p6) 32)
      have hb7 := hb6.trans (hbn.mono hb6.size)
      have HZ1 : Hid (ZS w (w6.alloc (.cells (d.cells o6 p6) 32)) w.heap.size q7 q8 w6.heap.size r11 g9 c b d o p o6 p6 u s t zg y) := Lib.hid
        ⟨HX2.out.step hb7, At.new w6 32 _, ha6.step hbn, At.step HC2.out hb7, At.step HD2.out hb7, by have h1 := At.lt HX2.out.bk; have h2 := hb6.size; omega, Nat.le_trans HX2.out.bel.size hb6.size, HLR.out⟩
      have HQ := Lib.hid HZ1.out.ck
      have HZ2 := Lib.hid (HZ1.out.put_ck x)
      clear HX2 HG HX k9 k10 CP HC2 HD2 HLR hb6 hb7 hbn ha6 HZ1
      go_upto_region 13 with (first | ((with_reducible apply wpList_store_bknew (b := d) (s := o6) (t := p6)); exact rfl; exact rfl; exact rfl; exact rfl) | ((with_reducible apply wpList_store_cg (c := x) (hq := HQ.out)); exact rfl; exact rfl; exact rfl; exact rfl))
      obtain ⟨V3, hW⟩ : ∃ V3, (w6.alloc (.cells (d.cells o6 p6) 32)).setRow r11 x.cells = V3 := ⟨_, rfl⟩
      rw [hW] at HZ2 ⊢; clear hW HQ
      generalize w6.heap.size = q12 at *
      have kl := UkAt.k20 HZ2.out.xs.uk
      have HUOK := Lib.hid (HTIE.out.uok HJ1.out)
      by_cases h1 : j < M
      · have a1 : (j : Int) < (M : Int) := by omega
        have aM := a1
        by_cases h2 : 0 < u.live.length
        · have a2 : (0 : Int) < (u.live.length : Int) := by omega
          have a3 : ((u.live.length : Int) > 0) := by omega
          have d2 : decide ((0 : Int) < (u.live.length : Int)) = true := by simpa using h2
          obtain ⟨b2, ob, rfl, l2, k2⟩ := HZZ.out j (by rw [HM.out]; exact h1)
          have HLV := Lib.hid h2
          have kp : V3.cell? ⟨b2, ob + j, none⟩ = some (.int .i64 (zs.getD j 0)) := (HZ2.out.xs.bel.cell (p := ⟨b2, ob + j, none⟩) l2).trans k2
          have hlb : b2 < V3.heap.size := Nat.lt_of_lt_of_le l2 HZ2.out.xs.bel.size
          generalize zs.getD j 0 = pk at *
          have KPK := Lib.hid kp; have HLB := Lib.hid hlb
          clear k2 l2 kp hlb h1 h2
          go_upto_region 14 with fail
          clear kl a2 a3 d2
          refine AnyOrder.region_kinds2 8 [.eq (u.V s t), .eq (.slice (some ⟨b2, ob, none⟩) M cap2), .eq (.int .i64 (j : Int)), .eq (ptr b2 (ob + j)), .eq (.int .i64 pk), .eq (ptr g9 9), .eq (.int .i64 y.n), .of (NvAt (u.ix + 1))] (fun wx => Below V3.heap.size V3 wx) (by kernel_rfl) (by kernel_rfl) rfl (by kernel_rfl) (below_drewN (Below.refl _ _) 1) (by intro p wa wb hp hj hb v hv; simp at hp; subst hp; exact NvAt.keep hv hb) ?_ ?_
          · intro i o listed a1 w2 hin ho st hl hdep
            match i, ho with
            | 0, ho => (injection ho with ho; subst ho; have ec : ∀ v, a1.eval (.const v) = v := fun _ => rfl; have ef : ∀ f, a1.eval (.func f) = .func (.func f) #[] #[] := fun _ => rfl; have e0 : a1.eval (.tmp 8) = ptr q8 0 := st.old hl 8 (by kernel_rfl); exact AnyOrder.step_value rfl (AnyOrder.wanted_none rfl) (u.V s t) (run_load_uk e0 (At.step HZ2.out.xs.uk st.inv)) st.inv (Below.refl _ _) rfl)
            | 1, ho => (injection ho with ho; subst ho; have ec : ∀ v, a1.eval (.const v) = v := fun _ => rfl; have ef : ∀ f, a1.eval (.func f) = .func (.func f) #[] #[] := fun _ => rfl; have e0 : a1.eval (.tmp 2) = .slice (some ⟨b2, ob, none⟩) M cap2 := st.old hl 2 (by kernel_rfl); exact AnyOrder.step_value rfl (AnyOrder.wanted_none rfl) (.slice (some ⟨b2, ob, none⟩) M cap2) (AnyOrder.run_move e0) st.inv (Below.refl _ _) rfl)
            | 2, ho => (injection ho with ho; subst ho; have ec : ∀ v, a1.eval (.const v) = v := fun _ => rfl; have ef : ∀ f, a1.eval (.func f) = .func (.func f) #[] #[] := fun _ => rfl; have e0 : a1.eval (.tmp 9) = .int .i64 (j : Int) := st.old hl 9 (by kernel_rfl); exact AnyOrder.step_value rfl (AnyOrder.wanted_none rfl) (.int .i64 (j : Int)) (AnyOrder.run_move e0) st.inv (Below.refl _ _) rfl)
            | 3, ho => (injection ho with ho; subst ho; have ec : ∀ v, a1.eval (.const v) = v := fun _ => rfl; have ef : ∀ f, a1.eval (.func f) = .func (.func f) #[] #[] := fun _ => rfl; have e0 : a1.eval (.tmp 63) = .slice (some ⟨b2, ob, none⟩) M cap2 := st.done 1 63 (hdep ⟨1, .data⟩ (by simp) rfl) rfl; have e1 : a1.eval (.tmp 64) = .int .i64 (j : Int) := st.done 2 64 (hdep ⟨2, .data⟩ (by simp) rfl) rfl; exact AnyOrder.step_value rfl (AnyOrder.wanted_none rfl) (ptr b2 (ob + j)) (by generalize a1.eval = ρ at ec ef e0 e1 ⊢; simp [execOp, e0, e1, go_sem, aM, b4]) st.inv (Below.refl _ _) rfl)
            | 4, ho => (injection ho with ho; subst ho; have ec : ∀ v, a1.eval (.const v) = v := fun _ => rfl; have ef : ∀ f, a1.eval (.func f) = .func (.func f) #[] #[] := fun _ => rfl; have e0 : a1.eval (.tmp 65) = ptr b2 (ob + j) := st.done 3 65 (hdep ⟨3, .data⟩ (by simp) rfl) rfl; exact AnyOrder.step_value rfl (AnyOrder.wanted_none rfl) (.int .i64 pk) (by have hk := (st.inv.cell (p := ⟨b2, ob + j, none⟩) HLB.out).trans KPK.out; generalize a1.eval = ρ at ec ef e0 ⊢; simp [execOp, e0, go_sem, hk]) st.inv (Below.refl _ _) rfl)
            | 5, ho => (injection ho with ho; subst ho; have ec : ∀ v, a1.eval (.const v) = v := fun _ => rfl; have ef : ∀ f, a1.eval (.func f) = .func (.func f) #[] #[] := fun _ => rfl; have e0 : a1.eval (.tmp 10) = ptr g9 0 := st.old hl 10 (by kernel_rfl); exact AnyOrder.step_value rfl (AnyOrder.wanted_none rfl) (ptr g9 9) (by generalize a1.eval = ρ at ec ef e0 ⊢; simp [execOp, e0, go_sem]) st.inv (Below.refl _ _) rfl)
            | 6, ho => (injection ho with ho; subst ho; have ec : ∀ v, a1.eval (.const v) = v := fun _ => rfl; have ef : ∀ f, a1.eval (.func f) = .func (.func f) #[] #[] := fun _ => rfl; have e0 : a1.eval (.tmp 67) = ptr g9 9 := st.done 5 67 (hdep ⟨5, .data⟩ (by simp) rfl) rfl; exact AnyOrder.step_value rfl (AnyOrder.wanted_none rfl) (.int .i64 y.n) (by have hk := DdAt.k9 (At.step HZ2.out.dd st.inv); generalize a1.eval = ρ at ec ef e0 ⊢; simp [execOp, e0, go_sem, hk]) st.inv (Below.refl _ _) rfl)
            | 7, ho => (injection ho with ho; subst ho; have ec : ∀ v, a1.eval (.const v) = v := fun _ => rfl; have ef : ∀ f, a1.eval (.func f) = .func (.func f) #[] #[] := fun _ => rfl; have e0 : a1.eval (.tmp 62) = u.V s t := st.done 0 62 (hdep ⟨0, .data⟩ (by simp) rfl) rfl; have e1 : a1.eval (.tmp 66) = .int .i64 pk := st.done 4 66 (hdep ⟨4, .data⟩ (by simp) rfl) rfl; have e2 : a1.eval (.tmp 68) = .int .i64 y.n := st.done 6 68 (hdep ⟨6, .data⟩ (by simp) rfl) rfl; exact AnyOrder.step_call rfl (AnyOrder.wanted_none rfl) 20 #[u.V s t, .int .i64 pk, .int .i64 y.n] (by generalize a1.eval = ρ at ec ef e0 e1 e2 ⊢; simp [execOp, ec, ef, e0, e1, e2, go_sem]) ((next_any pk y.n (HZ2.out.xs.ua.step st.inv) HUOK.out HLV.out).mono (fun e w4 h => by obtain ⟨xk, hx, rfl, hb⟩ := h; exact ⟨_, rfl, st.inv.trans (hb.mono st.inv.size), hb, xk, rfl, hx⟩)))
            | n + 8, ho => exact absurd hin (by omega)
          · intro w2 hJ
            simp only [AnyOrder.finK, List.take_succ_cons, List.take_zero, List.drop_succ_cons, List.drop_zero, Act.put, List.setIfInBounds_toArray, List.set_cons_zero, List.set_cons_succ]
            rintro v7 ⟨x2, rfl, hx2⟩
            have HZ3 := Lib.hid (HZ2.out.step hJ)
            have HQ := Lib.hid HZ3.out.ck
            have HZ4 := Lib.hid (HZ3.out.put_ck x2)
            have HX2 := Lib.hid hx2
            clear HZ2 HZ3 hx2 hJ KPK HLB
            go_upto_region 15 with ((with_reducible apply wpList_store_cg (c := x2) (hq := HQ.out)); exact rfl; exact rfl; exact rfl; exact rfl)
            obtain ⟨V4, hW⟩ : ∃ V4, w2.setRow r11 x2.cells = V4 := ⟨_, rfl⟩
            rw [hW] at HZ4 ⊢; clear hW HQ
            have CY := Lib.hid (applyBk_any (x := x2) HZ4.out.xs.at_ HTIE.out.ok)
            obtain ⟨⟨d2, e2⟩, hap⟩ : ∃ r, applyB b x2 = r := ⟨_, rfl⟩
            rw [hap] at CY
            obtain ⟨v8, f8, hrg⟩ := ResG.apply HTIE.out HJ1.out HX2.out hap
            have HRG2 := Lib.hid hrg; clear hap hrg
            have HG := Lib.hid HZ4.out.xs.bk; have HCK := Lib.hid HZ4.out.ck
            go_wp2_with (first | ((with_reducible apply wpList_load_bk (h := HG.out)); exact rfl; exact rfl; exact rfl) | ((with_reducible apply wpList_load_cg (h := HCK.out)); exact rfl; exact rfl; exact rfl))
            with_reducible refine CY.out.mono ?_
            rintro e0 w7 ⟨o7, p7, rfl, ha7, hb7⟩
            have ha7 : BAt w7 d2 o7 p7 := ha7
            have HZ5 := Lib.hid (HZ4.out.step hb7)
            have HQ := Lib.hid HZ5.out.dk
            have HZ6 := Lib.hid (HZ5.out.put_dk ha7)
            clear HZ4 HZ5 HG HCK CY ha7 hb7
            go_upto_region 16 with ((with_reducible apply wpList_store_bk (b := d2) (s := o7) (t := p7) (hq := HQ.out)); exact rfl; exact rfl; exact rfl; exact rfl)
            have HZ := HZ6; have HRG := HRG2
            obtain ⟨V4b, hW⟩ : ∃ y9, w7.setRow q12 (d2.cells o7 p7) = y9 := ⟨_, rfl⟩
            rw [hW] at HZ ⊢; clear hW HQ HZ6 HRG2
            have CU := Lib.hid (applyU_any (x := x2) HZ.out.xs.ua HUOK.out)
            rw [HRG.out.eq] at CU
            have HG := Lib.hid HZ.out.xs.uk; have HCK := Lib.hid HZ.out.ck
            go_upto_region 17 with (first | ((with_reducible apply wpList_load_uk (h := HG.out)); exact rfl; exact rfl; exact rfl) | ((with_reducible apply wpList_load_cg (h := HCK.out)); exact rfl; exact rfl; exact rfl) | (go_at_call 16; (with_reducible refine CU.out.mono ?_); rintro e0 w8 ⟨s9, t9, rfl, hu9, hb9⟩) | ((with_reducible apply wpList_store_unew (c := v8) (s := s9) (t := t9)); exact rfl; exact rfl; exact rfl; exact rfl))
            have hu9 : UAt w8 v8 s9 t9 := hu9
            have hbn := below_new w8 (.cells (v8.cells s9 t9) 36)
            have hb10 := hb9.trans (hbn.mono hb9.size)
            have HZ8 := Lib.hid (HZ.out.step hb10)
            have HVK0 := At.new w8 36 (v8.cells s9 t9)
            have HVA := Lib.hid (hu9.step hbn)
            have hq8 : q8 ≠ w8.heap.size := by have h1 := At.lt HZ.out.xs.uk; have h2 := hb9.size; omega
            obtain ⟨V5, hW⟩ : ∃ V5, w8.alloc (.cells (v8.cells s9 t9) 36) = V5 := ⟨_, rfl⟩
            rw [hW] at HZ8 HVK0 HVA ⊢; clear hW hbn hb9 hb10 hu9 HZ CU HG HCK
            have HVK : Hid (UkAt V5 w8.heap.size v8 s9 t9) := Lib.hid HVK0
            have HQ8 := Lib.hid hq8; clear HVK0 hq8
            generalize w8.heap.size = q14 at *
            by_cases he : e2 = 0
            · obtain ⟨hf, hrel, htie⟩ := HRG.out.ok he
              have d0 : decide (e2 = 0) = true := by simpa using he
              have q0 : (e2 == 0) = true := by simpa using he
              have n0 : (e2 != 0) = false := by simpa using he
              have d1 : decide (f8 = 0) = true := by simpa using hf
              have q1 : (f8 == 0) = true := by simpa using hf
              have n1 : (f8 != 0) = false := by simpa using hf
              have HT9 := Lib.hid htie
              have CAL := Lib.hid (alike_any HZ8.out.da HVA.out hrel)
              clear he hf hrel htie HRG HTIE
              have HDK := Lib.hid HZ8.out.dk
              go_wp2_with (first | ((with_reducible apply wpList_load_bk (h := HDK.out)); exact rfl; exact rfl; exact rfl) | ((with_reducible apply wpList_load_uk (h := HVK.out)); exact rfl; exact rfl; exact rfl))
              with_reducible refine CAL.out.mono ?_
              rintro e0 V6 ⟨rfl, hb6⟩
              have HZ9 := Lib.hid (HZ8.out.step hb6); have HVK2 := Lib.hid (At.step HVK.out hb6); have HVA2 := Lib.hid (HVA.out.step hb6)
              clear HZ8 HVK HVA CAL HDK hb6
              have HDK := Lib.hid HZ9.out.dk; have HB7 := Lib.hid HZ9.out.xs.bk
              have HX7 := Lib.hid (HZ9.out.xs.put_bk HZ9.out.da)
              have HVK3 := Lib.hid (At.farRow (ds := d2.cells o7 p7) HVK2.out (At.ne HVK2.out HB7.out (by decide)))
              have HVA3 := Lib.hid (UAt.farRow (ds := d2.cells o7 p7) HVA2.out HB7.out (by decide))
              go_upto_region 21 with (first | ((with_reducible apply wpList_load_bk (h := HDK.out)); exact rfl; exact rfl; exact rfl) | ((with_reducible apply wpList_store_bk (b := d2) (s := o7) (t := p7) (hq := HB7.out)); exact rfl; exact rfl; exact rfl; exact rfl))
              obtain ⟨V7, hV⟩ : ∃ y9, V6.setRow q7 (d2.cells o7 p7) = y9 := ⟨_, rfl⟩
              rw [hV] at HX7 HVK3 HVA3 ⊢; clear hV HDK HB7 HZ9 HVK2 HVA2
              have HU8 := Lib.hid HX7.out.uk
              have HVK4 : Hid (UkAt V7 q14 v8 s9 t9) := HVK3
              have HX8 := Lib.hid (HX7.out.put_uk HVA3.out)
              go_wp2_with (first | ((with_reducible apply wpList_load_uk (h := HVK4.out)); exact rfl; exact rfl; exact rfl) | ((with_reducible apply wpList_store_uk (b := v8) (s := s9) (t := t9) (hq := HU8.out)); exact rfl; exact rfl; exact rfl; exact rfl))
              go_roundg (N - (j + 1))
              case measure => have := HG0.out; have := HJ.out; omega
              case rel => exact ⟨j + 1, d2, o7, p7, v8, s9, t9, by have := HJ.out; omega, by have := HJ.out; omega, rfl, by have := HJ.out; have := HL.out; first | rfl | (rw [IntWalk.wrap64_in _ (by omega)]; rfl), HX8.out, HT9.out⟩
            · have d0 : decide (e2 = 0) = false := by simpa using he
              have q0 : (e2 == 0) = false := by simpa using he
              have n0 : (e2 != 0) = true := by simpa using he
              have hno := HRG.out.no he
              have HT9 := Lib.hid (HTIE.out.mono (Nat.le_succ j))
              have HCK := Lib.hid HZ8.out.ck
              have HX8 := Lib.hid HZ8.out.xs
              clear he HRG HTIE HVK HVA HZ8
              cases hxb : x2.beq zg
              · have hf : f8 ≠ 0 := by
                  rcases hno with h | h
                  · rw [h, Cg.beq_self] at hxb; cases hxb
                  · exact h
                have d1 : decide (f8 = 0) = false := by simpa using hf
                have q1 : (f8 == 0) = false := by simpa using hf
                have n1 : (f8 != 0) = true := by simpa using hf
                have HB := Lib.hid (show (!x2.beq zg) = true by rw [hxb]; rfl)
                clear hf hno hxb
                go_wp2_with (first | ((with_reducible apply wpList_load_cg (h := HCK.out)); exact rfl; exact rfl; exact rfl) | ((with_reducible apply wpList_build_zg); exact rfl; exact rfl) | ((with_reducible apply wpList_neq_cg (c := x2) (d := zg) (hb := HB.out)); exact rfl; exact rfl; exact rfl; exact rfl))
                go_roundg (N - (j + 1))
                case measure => have := HG0.out; have := HJ.out; omega
                case rel => exact ⟨j + 1, b, o, p, u, s, t, by have := HJ.out; omega, by have := HJ.out; omega, rfl, by have := HJ.out; have := HL.out; first | rfl | (rw [IntWalk.wrap64_in _ (by omega)]; rfl), HX8.out, HT9.out⟩
              · have HB := Lib.hid (show (!x2.beq zg) = false by rw [hxb]; rfl)
                clear hno hxb
                go_wp2_with (first | ((with_reducible apply wpList_load_cg (h := HCK.out)); exact rfl; exact rfl; exact rfl) | ((with_reducible apply wpList_build_zg); exact rfl; exact rfl) | ((with_reducible apply wpList_neq_cg (c := x2) (d := zg) (hb := HB.out)); exact rfl; exact rfl; exact rfl; exact rfl))
                go_roundg (N - (j + 1))
                case measure => have := HG0.out; have := HJ.out; omega
                case rel => exact ⟨j + 1, b, o, p, u, s, t, by have := HJ.out; omega, by have := HJ.out; omega, rfl, by have := HJ.out; have := HL.out; first | rfl | (rw [IntWalk.wrap64_in _ (by omega)]; rfl), HX8.out, HT9.out⟩
        · have h0 : u.live.length = 0 := by omega
          rw [h0] at kl
          go_upto_region 16 with fail
          have HZ := HZ2; clear HZ2 kl
          have CU := Lib.hid (applyU_any (x := x) HZ.out.xs.ua HUOK.out)
          rw [HRG.out.eq] at CU
          have HG := Lib.hid HZ.out.xs.uk; have HCK := Lib.hid HZ.out.ck
          go_upto_region 17 with (first | ((with_reducible apply wpList_load_uk (h := HG.out)); exact rfl; exact rfl; exact rfl) | ((with_reducible apply wpList_load_cg (h := HCK.out)); exact rfl; exact rfl; exact rfl) | (go_at_call 16; (with_reducible refine CU.out.mono ?_); rintro e0 w8 ⟨s9, t9, rfl, hu9, hb9⟩) | ((with_reducible apply wpList_store_unew (c := v9) (s := s9) (t := t9)); exact rfl; exact rfl; exact rfl; exact rfl))
          have hu9 : UAt w8 v9 s9 t9 := hu9
          have hbn := below_new w8 (.cells (v9.cells s9 t9) 36)
          have hb10 := hb9.trans (hbn.mono hb9.size)
          have HZ8 := Lib.hid (HZ.out.step hb10)
          have HVK0 := At.new w8 36 (v9.cells s9 t9)
          have HVA := Lib.hid (hu9.step hbn)
          have hq8 : q8 ≠ w8.heap.size := by have h1 := At.lt HZ.out.xs.uk; have h2 := hb9.size; omega
          obtain ⟨V5, hW⟩ : ∃ V5, w8.alloc (.cells (v9.cells s9 t9) 36) = V5 := ⟨_, rfl⟩
          rw [hW] at HZ8 HVK0 HVA ⊢; clear hW hbn hb9 hb10 hu9 HZ CU HG HCK
          have HVK : Hid (UkAt V5 w8.heap.size v9 s9 t9) := Lib.hid HVK0
          have HQ8 := Lib.hid hq8; clear HVK0 hq8
          generalize w8.heap.size = q14 at *
          by_cases he : e = 0
          · obtain ⟨hf, hrel, htie⟩ := HRG.out.ok he
            have d0 : decide (e = 0) = true := by simpa using he
            have q0 : (e == 0) = true := by simpa using he
            have n0 : (e != 0) = false := by simpa using he
            have d1 : decide (f9 = 0) = true := by simpa using hf
            have q1 : (f9 == 0) = true := by simpa using hf
            have n1 : (f9 != 0) = false := by simpa using hf
            have HT9 := Lib.hid htie
            have CAL := Lib.hid (alike_any HZ8.out.da HVA.out hrel)
            clear he hf hrel htie HRG HTIE
            have HDK := Lib.hid HZ8.out.dk
            go_wp2_with (first | ((with_reducible apply wpList_load_bk (h := HDK.out)); exact rfl; exact rfl; exact rfl) | ((with_reducible apply wpList_load_uk (h := HVK.out)); exact rfl; exact rfl; exact rfl))
            with_reducible refine CAL.out.mono ?_
            rintro e0 V6 ⟨rfl, hb6⟩
            have HZ9 := Lib.hid (HZ8.out.step hb6); have HVK2 := Lib.hid (At.step HVK.out hb6); have HVA2 := Lib.hid (HVA.out.step hb6)
            clear HZ8 HVK HVA CAL HDK hb6
            have HDK := Lib.hid HZ9.out.dk; have HB7 := Lib.hid HZ9.out.xs.bk
            have HX7 := Lib.hid (HZ9.out.xs.put_bk HZ9.out.da)
            have HVK3 := Lib.hid (At.farRow (ds := d.cells o6 p6) HVK2.out (At.ne HVK2.out HB7.out (by decide)))
            have HVA3 := Lib.hid (UAt.farRow (ds := d.cells o6 p6) HVA2.out HB7.out (by decide))
            go_upto_region 21 with (first | ((with_reducible apply wpList_load_bk (h := HDK.out)); exact rfl; exact rfl; exact rfl) | ((with_reducible apply wpList_store_bk (b := d) (s := o6) (t := p6) (hq := HB7.out)); exact rfl; exact rfl; exact rfl; exact rfl))
            obtain ⟨V7, hV⟩ : ∃ y9, V6.setRow q7 (d.cells o6 p6) = y9 := ⟨_, rfl⟩
            rw [hV] at HX7 HVK3 HVA3 ⊢; clear hV HDK HB7 HZ9 HVK2 HVA2
            have HU8 := Lib.hid HX7.out.uk
            have HVK4 : Hid (UkAt V7 q14 v9 s9 t9) := HVK3
            have HX8 := Lib.hid (HX7.out.put_uk HVA3.out)
            go_wp2_with (first | ((with_reducible apply wpList_load_uk (h := HVK4.out)); exact rfl; exact rfl; exact rfl) | ((with_reducible apply wpList_store_uk (b := v9) (s := s9) (t := t9) (hq := HU8.out)); exact rfl; exact rfl; exact rfl; exact rfl))
            go_roundg (N - (j + 1))
            case measure => have := HG0.out; have := HJ.out; omega
            case rel => exact ⟨j + 1, d, o6, p6, v9, s9, t9, by have := HJ.out; omega, by have := HJ.out; omega, rfl, by have := HJ.out; have := HL.out; first | rfl | (rw [IntWalk.wrap64_in _ (by omega)]; rfl), HX8.out, HT9.out⟩
          · have d0 : decide (e = 0) = false := by simpa using he
            have q0 : (e == 0) = false := by simpa using he
            have n0 : (e != 0) = true := by simpa using he
            have hno := HRG.out.no he
            have HT9 := Lib.hid (HTIE.out.mono (Nat.le_succ j))
            have HCK := Lib.hid HZ8.out.ck
            have HX8 := Lib.hid HZ8.out.xs
            clear he HRG HTIE HVK HVA HZ8
            cases hxb : x.beq zg
            · have hf : f9 ≠ 0 := by
                rcases hno with h | h
                · rw [h, Cg.beq_self] at hxb; cases hxb
                · exact h
              have d1 : decide (f9 = 0) = false := by simpa using hf
              have q1 : (f9 == 0) = false := by simpa using hf
              have n1 : (f9 != 0) = true := by simpa using hf
              have HB := Lib.hid (show (!x.beq zg) = true by rw [hxb]; rfl)
              clear hf hno hxb
              go_wp2_with (first | ((with_reducible apply wpList_load_cg (h := HCK.out)); exact rfl; exact rfl; exact rfl) | ((with_reducible apply wpList_build_zg); exact rfl; exact rfl) | ((with_reducible apply wpList_neq_cg (c := x) (d := zg) (hb := HB.out)); exact rfl; exact rfl; exact rfl; exact rfl))
              go_roundg (N - (j + 1))
              case measure => have := HG0.out; have := HJ.out; omega
              case rel => exact ⟨j + 1, b, o, p, u, s, t, by have := HJ.out; omega, by have := HJ.out; omega, rfl, by have := HJ.out; have := HL.out; first | rfl | (rw [IntWalk.wrap64_in _ (by omega)]; rfl), HX8.out, HT9.out⟩
            · have HB := Lib.hid (show (!x.beq zg) = false by rw [hxb]; rfl)
              clear hno hxb
              go_wp2_with (first | ((with_reducible apply wpList_load_cg (h := HCK.out)); exact rfl; exact rfl; exact rfl) | ((with_reducible apply wpList_build_zg); exact rfl; exact rfl) | ((with_reducible apply wpList_neq_cg (c := x) (d := zg) (hb := HB.out)); exact rfl; exact rfl; exact rfl; exact rfl))
              go_roundg (N - (j + 1))
              case measure => have := HG0.out; have := HJ.out; omega
              case rel => exact ⟨j + 1, b, o, p, u, s, t, by have := HJ.out; omega, by have := HJ.out; omega, rfl, by have := HJ.out; have := HL.out; first | rfl | (rw [IntWalk.wrap64_in _ (by omega)]; rfl), HX8.out, HT9.out⟩
      · have a1 : ¬ (j : Int) < (M : Int) := by omega
        go_upto_region 16 with fail
        have HZ := HZ2; clear HZ2 kl
        have CU := Lib.hid (applyU_any (x := x) HZ.out.xs.ua HUOK.out)
        rw [HRG.out.eq] at CU
        have HG := Lib.hid HZ.out.xs.uk; have HCK := Lib.hid HZ.out.ck
        go_upto_region 17 with (first | ((with_reducible apply wpList_load_uk (h := HG.out)); exact rfl; exact rfl; exact rfl) | ((with_reducible apply wpList_load_cg (h := HCK.out)); exact rfl; exact rfl; exact rfl) | (go_at_call 16; (with_reducible refine CU.out.mono ?_); rintro e0 w8 ⟨s9, t9, rfl, hu9, hb9⟩) | ((with_reducible apply wpList_store_unew (c := v9) (s := s9) (t := t9)); exact rfl; exact rfl; exact rfl; exact rfl))
        have hu9 : UAt w8 v9 s9 t9 := hu9
        have hbn := below_new w8 (.cells (v9.cells s9 t9) 36)
        have hb10 := hb9.trans (hbn.mono hb9.size)
        have HZ8 := Lib.hid (HZ.out.step hb10)
        have HVK0 := At.new w8 36 (v9.cells s9 t9)
        have HVA := Lib.hid (hu9.step hbn)
        have hq8 : q8 ≠ w8.heap.size := by have h1 := At.lt HZ.out.xs.uk; have h2 := hb9.size; omega
        obtain ⟨V5, hW⟩ : ∃ V5, w8.alloc (.cells (v9.cells s9 t9) 36) = V5 := ⟨_, rfl⟩
        rw [hW] at HZ8 HVK0 HVA ⊢; clear hW hbn hb9 hb10 hu9 HZ CU HG HCK
        have HVK : Hid (UkAt V5 w8.heap.size v9 s9 t9) := Lib.hid HVK0
        have HQ8 := Lib.hid hq8; clear HVK0 hq8
        generalize w8.heap.size = q14 at *
        by_cases he : e = 0
        · obtain ⟨hf, hrel, htie⟩ := HRG.out.ok he
          have d0 : decide (e = 0) = true := by simpa using he
          have q0 : (e == 0) = true := by simpa using he
          have n0 : (e != 0) = false := by simpa using he
          have d1 : decide (f9 = 0) = true := by simpa using hf
          have q1 : (f9 == 0) = true := by simpa using hf
          have n1 : (f9 != 0) = false := by simpa using hf
          have HT9 := Lib.hid htie
          have CAL := Lib.hid (alike_any HZ8.out.da HVA.out hrel)
          clear he hf hrel htie HRG HTIE
          have HDK := Lib.hid HZ8.out.dk
          go_wp2_with (first | ((with_reducible apply wpList_load_bk (h := HDK.out)); exact rfl; exact rfl; exact rfl) | ((with_reducible apply wpList_load_uk (h := HVK.out)); exact rfl; exact rfl; exact rfl))
          with_reducible refine CAL.out.mono ?_
          rintro e0 V6 ⟨rfl, hb6⟩
          have HZ9 := Lib.hid (HZ8.out.step hb6); have HVK2 := Lib.hid (At.step HVK.out hb6); have HVA2 := Lib.hid (HVA.out.step hb6)
          clear HZ8 HVK HVA CAL HDK hb6
          have HDK := Lib.hid HZ9.out.dk; have HB7 := Lib.hid HZ9.out.xs.bk
          have HX7 := Lib.hid (HZ9.out.xs.put_bk HZ9.out.da)
          have HVK3 := Lib.hid (At.farRow (ds := d.cells o6 p6) HVK2.out (At.ne HVK2.out HB7.out (by decide)))
          have HVA3 := Lib.hid (UAt.farRow (ds := d.cells o6 p6) HVA2.out HB7.out (by decide))
          go_upto_region 21 with (first | ((with_reducible apply wpList_load_bk (h := HDK.out)); exact rfl; exact rfl; exact rfl) | ((with_reducible apply wpList_store_bk (b := d) (s := o6) (t := p6) (hq := HB7.out)); exact rfl; exact rfl; exact rfl; exact rfl))
          obtain ⟨V7, hV⟩ : ∃ y9, V6.setRow q7 (d.cells o6 p6) = y9 := ⟨_, rfl⟩
          rw [hV] at HX7 HVK3 HVA3 ⊢; clear hV HDK HB7 HZ9 HVK2 HVA2
          have HU8 := Lib.hid HX7.out.uk
          have HVK4 : Hid (UkAt V7 q14 v9 s9 t9) := HVK3
          have HX8 := Lib.hid (HX7.out.put_uk HVA3.out)
          go_wp2_with (first | ((with_reducible apply wpList_load_uk (h := HVK4.out)); exact rfl; exact rfl; exact rfl) | ((with_reducible apply wpList_store_uk (b := v9) (s := s9) (t := t9) (hq := HU8.out)); exact rfl; exact rfl; exact rfl; exact rfl))
          go_roundg (N - (j + 1))
          case measure => have := HG0.out; have := HJ.out; omega
          case rel => exact ⟨j + 1, d, o6, p6, v9, s9, t9, by have := HJ.out; omega, by have := HJ.out; omega, rfl, by have := HJ.out; have := HL.out; first | rfl | (rw [IntWalk.wrap64_in _ (by omega)]; rfl), HX8.out, HT9.out⟩
        · have d0 : decide (e = 0) = false := by simpa using he
          have q0 : (e == 0) = false := by simpa using he
          have n0 : (e != 0) = true := by simpa using he
          have hno := HRG.out.no he
          have HT9 := Lib.hid (HTIE.out.mono (Nat.le_succ j))
          have HCK := Lib.hid HZ8.out.ck
          have HX8 := Lib.hid HZ8.out.xs
          clear he HRG HTIE HVK HVA HZ8
          cases hxb : x.beq zg
          · have hf : f9 ≠ 0 := by
              rcases hno with h | h
              · rw [h, Cg.beq_self] at hxb; cases hxb
              · exact h
            have d1 : decide (f9 = 0) = false := by simpa using hf
            have q1 : (f9 == 0) = false := by simpa using hf
            have n1 : (f9 != 0) = true := by simpa using hf
            have HB := Lib.hid (show (!x.beq zg) = true by rw [hxb]; rfl)
            clear hf hno hxb
            go_wp2_with (first | ((with_reducible apply wpList_load_cg (h := HCK.out)); exact rfl; exact rfl; exact rfl) | ((with_reducible apply wpList_build_zg); exact rfl; exact rfl) | ((with_reducible apply wpList_neq_cg (c := x) (d := zg) (hb := HB.out)); exact rfl; exact rfl; exact rfl; exact rfl))
            go_roundg (N - (j + 1))
            case measure => have := HG0.out; have := HJ.out; omega
            case rel => exact ⟨j + 1, b, o, p, u, s, t, by have := HJ.out; omega, by have := HJ.out; omega, rfl, by have := HJ.out; have := HL.out; first | rfl | (rw [IntWalk.wrap64_in _ (by omega)]; rfl), HX8.out, HT9.out⟩
          · have HB := Lib.hid (show (!x.beq zg) = false by rw [hxb]; rfl)
            clear hno hxb
            go_wp2_with (first | ((with_reducible apply wpList_load_cg (h := HCK.out)); exact rfl; exact rfl; exact rfl) | ((with_reducible apply wpList_build_zg); exact rfl; exact rfl) | ((with_reducible apply wpList_neq_cg (c := x) (d := zg) (hb := HB.out)); exact rfl; exact rfl; exact rfl; exact rfl))
            go_roundg (N - (j + 1))
            case measure => have := HG0.out; have := HJ.out; omega
            case rel => exact ⟨j + 1, b, o, p, u, s, t, by have := HJ.out; omega, by have := HJ.out; omega, rfl, by have := HJ.out; have := HL.out; first | rfl | (rw [IntWalk.wrap64_in _ (by omega)]; rfl), HX8.out, HT9.out⟩
    · have hx : (j < N ∧ ¬ j < 60) ∨ ¬ j < N := by omega
      have CAL := Lib.hid (alike_any HXS.out.at_ HXS.out.ua HTIE.out.rel)
      have HGB := Lib.hid HXS.out.bk; have HGU := Lib.hid HXS.out.uk; have HBEL := Lib.hid HXS.out.bel
      clear HG0 HA hlt HXS HTIE
      rcases hx with ⟨h1, h2⟩ | h1
      · have b3 : (j : Int) < (N : Int) := by omega
        have b6 : ¬ (j : Int) < 60 := by omega
        clear h1 h2 hj hj60
        go_upto_region 22 with fail
        go_wp2_with (first | ((with_reducible apply wpList_load_bk (h := HGB.out)); exact rfl; exact rfl; exact rfl) | ((with_reducible apply wpList_load_uk (h := HGU.out)); exact rfl; exact rfl; exact rfl))
        with_reducible refine CAL.out.mono ?_
        rintro e0 V6 ⟨rfl, hb6⟩
        have HBEL2 := Lib.hid (HBEL.out.trans (hb6.mono HBEL.out.size))
        go_wp2_with fail
        go_ret
        exact ⟨rfl, HBEL2.out⟩
      · have b3 : ¬ (j : Int) < (N : Int) := by omega
        clear h1 hj hj60
        go_upto_region 22 with fail
        go_wp2_with (first | ((with_reducible apply wpList_load_bk (h := HGB.out)); exact rfl; exact rfl; exact rfl) | ((with_reducible apply wpList_load_uk (h := HGU.out)); exact rfl; exact rfl; exact rfl))
        with_reducible refine CAL.out.mono ?_
        rintro e0 V6 ⟨rfl, hb6⟩
        have HBEL2 := Lib.hid (HBEL.out.trans (hb6.mono HBEL.out.size))
        go_wp2_with fail
        go_ret
        exact ⟨rfl, HBEL2.out⟩
end Go.Proofs.YtodacdooooeofaaGreat
