/- The walk of the statement PackBack. -/
import Derived.Test.YtoijipahcpdhcaaBackB
import Derived.Test.YtoijipahcpdhcaaPackLists
namespace Go.Proofs.Ytoijipahcpdhcaa
open Go.RowKit Go.Lib Plain

/-- at the first loop's head: what was written, and which acts it was -/
structure BS (w wx : World) (p : Nat) (v : Value) (gd cd : Nat) (D : List Act) (j : Nat) : Prop where
  out : Out wx w.heap.size p v (D.flatMap bytesB)
  d : OwnActs wx w.heap.size gd cd D
  below : Below w.heap.size w wx
  dok : ∀ a ∈ D, Done a
  dl : D.length ≤ j
  len : (D.flatMap bytesB).length ≤ j * 2000
theorem At.wrote {w w' : World} {B p g : Nat} {v : Value} {bs bs' : List UInt8} {cs : Array Value} (h : At w g 29 cs) (ho : Out w B p v bs) (hw : Wrote w B p v bs' w') : At w' g 29 cs := by
  obtain ⟨_, _, hc, _⟩ := hw
  exact h.chg hc (ho.off_at h (by decide) (by decide))
theorem own_wrote {w w' : World} {B p gd cd : Nat} {v : Value} {bs bs' : List UInt8} {D : List Act} (hd : OwnActs w B gd cd D) (ho : Out w B p v bs) (hw : Wrote w B p v bs' w') : OwnActs w' B gd cd D := by
  obtain ⟨_, _, hc, _⟩ := hw
  exact hd.chg hc (ho.off_own hd rfl (by decide) (by decide))
theorem below_wrote {w w' w0 : World} {p : Nat} {v : Value} {bs bs' : List UInt8} (hb : Below w0.heap.size w0 w) (ho : Out w w0.heap.size p v bs) (hw : Wrote w w0.heap.size p v bs' w') : Below w0.heap.size w0 w' := by
  obtain ⟨_, _, hc, _⟩ := hw
  exact hb.trans (wrote_below ho hb.size hc)
theorem src_new (w : World) (x : Act) : SrcActs (w.alloc (.cells #[.int .i64 x.kind, .int .i64 x.wd, .int .i64 x.n, .int .i64 x.m, .string x.s] 29)) (some ⟨w.heap.size, 0, none⟩) 1 [x] := by
  refine .inr ⟨_, rfl, fun j u hj => ?_⟩
  have := World.news_of_block (heap_alloc_new w (.cells (xcells x) 29)) j u (by simpa [actCells] using hj)
  exact this
theorem out_grown {wx w' : World} {B B' p g : Nat} {v u : Value} {bs : List UInt8} {e : TypeId} {size n : Nat} {xs : List Value} (h : Out wx B p v bs) (hu : wx.ownsRow B' e size u n xs) (hg : u.ownBlock = some g) (h5 : e ≠ 5) (h27 : e ≠ 27) (hgr : wx.grownBy w' (some g)) : Out w' B p v bs := by
  refine h.chg (Chg.grown hgr) ?_ ?_
  · intro e1; injection e1 with e1; subst e1; exact own_ne hu h.at_ h27 hg
  · intro k hk e1; injection e1 with e1; subst e1; exact own_ne2 h.own hu (Ne.symm h5) hk hg

/-- while the acts are read back by the In at p2, k of them are read -/
structure BR (w wx : World) (p : Nat) (v : Value) (p2 gd cd : Nat) (D : List Act) (full rest : List UInt8) : Prop where
  out : Out wx w.heap.size p v full
  inn : InAt wx p2 (textOf rest) false
  d : OwnActs wx w.heap.size gd cd D
  below : Below w.heap.size w wx
  le : w.heap.size ≤ p2
theorem out_took {w w' : World} {B p p2 : Nat} {v : Value} {bs : List UInt8} {s s' : ByteArray} {bad bad' : Bool} (h : Out w B p v bs) (hi : InAt w p2 s bad) (ht : Took w p2 s' bad' w') : Out w' B p v bs :=
  h.chg ht.2 (At.ne h.at_ hi (by decide)) (fun k hk e => by subst e; exact own_ne h.own hi (by decide) hk)
theorem BR.took {w wx w' : World} {p : Nat} {v : Value} {p2 gd cd : Nat} {D : List Act} {full rest rest' : List UInt8} {T : ByteArray} (h : BR w wx p v p2 gd cd D full rest) (ht : Took wx p2 T false w') (hT : T = textOf rest') : BR w w' p v p2 gd cd D full rest' := by
  subst hT
  refine ⟨out_took h.out h.inn ht, ht.1, h.d.chg ht.2 ?_, h.below.trans (ht.2.toBelow h.below.size (fun k hk e => by have := h.le; omega)), h.le⟩
  intro e; subst e; exact own_ne h.d h.inn (by decide) rfl
theorem BR.alloc {w wx : World} {p : Nat} {v : Value} {p2 gd cd : Nat} {D : List Act} {full rest : List UInt8} (h : BR w wx p v p2 gd cd D full rest) (o : Obj) : BR w (wx.alloc o) p v p2 gd cd D full rest :=
  ⟨h.out.alloc o, At.alloc h.inn o, h.d.alloc o, h.below.alloc h.below.size o, h.le⟩
theorem BR.drewN {w wx : World} {p : Nat} {v : Value} {p2 gd cd : Nat} {D : List Act} {full rest : List UInt8} (h : BR w wx p v p2 gd cd D full rest) (n : Nat) : BR w (wx.drewN n) p v p2 gd cd D full rest :=
  ⟨⟨h.out.at_, h.out.own, h.out.le⟩, h.inn, h.d, below_drewN h.below n, h.le⟩

/-- while the In that lacks the last byte is read -/
structure BJ (w wx : World) (p3 gd cd : Nat) (D : List Act) (rest : List UInt8) (s : ByteArray) (bad : Bool) : Prop where
  inn : InAt wx p3 s bad
  jb : JB rest s bad
  d : OwnActs wx w.heap.size gd cd D
  below : Below w.heap.size w wx
  le : w.heap.size ≤ p3
  size : s.size ≤ 80200
theorem BJ.took {w wx w' : World} {p3 gd cd : Nat} {D : List Act} {rest rest' : List UInt8} {s s' : ByteArray} {bad bad' : Bool} (h : BJ w wx p3 gd cd D rest s bad) (ht : Took wx p3 s' bad' w') (hj : JB rest' s' bad') (hs : s'.size ≤ s.size) : BJ w w' p3 gd cd D rest' s' bad' := by
  refine ⟨ht.1, hj, h.d.chg ht.2 ?_, h.below.trans (ht.2.toBelow h.below.size (fun k hk e => by have := h.le; omega)), h.le, Nat.le_trans hs h.size⟩
  intro e; subst e; exact own_ne h.d h.inn (by decide) rfl

set_option maxRecDepth 100000 in
set_option maxHeartbeats 6400000 in
theorem packBack_walk (A : Option Addr) (cap : Nat) (acts : List Act) (A2 : Option Addr) (cap2 : Nat) (zs : List Int) (w : World) (hok : ∀ y ∈ acts, y.Ok) (hA : ActsAt w w.heap.size A acts) (hlen : acts.length ≤ maxLen) (hzi : ∀ z ∈ zs, inI64 z) (hZ : IntsAt w w.heap.size A2 zs) (hzl : zs.length ≤ maxLen) :
    Calls Try.prog 6 #[.slice A acts.length cap, .slice A2 zs.length cap2] w fun e w' => e = .returned (.bool true) ∧ Below w.heap.size w w' := by
  unfold maxLen at hlen hzl
  have HOK := Lib.hid hok; have HA := Lib.hid hA; have HZI := Lib.hid hzi; have HZ := Lib.hid hZ; clear hok hA hzi hZ
  by_cases hb1 : 100 < zs.length
  · go_enter Try.func6, Try.ntmps6
    go_wp2_with (go_at_call 8; refine (awake_any _).mono ?_; rintro e w' ⟨rfl, hb⟩)
    go_ret
    exact ⟨rfl, hb⟩
  go_enter Try.func6, Try.ntmps6
  go_wp2_with fail
  refine (awake_any _).mono ?_
  rintro e w1 ⟨rfl, hbw1⟩
  have z1 : w.heap.size ≤ w1.heap.size := hbw1.size
  have HB1 := Lib.hid hbw1; clear hbw1
  go_wp2_with fail
  go_loopg [6, 7] acts.length (fun g s6 s7 wx => ∃ (j gd cd : Nat) (D : List Act) (v : Value), j ≤ acts.length ∧ j ≤ 40 ∧ g = acts.length - j ∧ s6 = .slice (some ⟨gd, 0, none⟩) D.length cd ∧ s7 = .int .i64 (j : Int) ∧ BS w wx w1.heap.size v gd cd D j)
  case atStart =>
    refine ⟨0, w1.heap.size + 1, 0, [], .slice none 0 0, Nat.zero_le _, by omega, rfl, rfl, rfl, ⟨(Out.new w1 w.heap.size z1).alloc _, ?_, (HB1.out.alloc z1 _).alloc (by simp; omega) _, by simp, by simp, by simp⟩⟩
    have := World.ownsRow_made (base := w.heap.size) (e := 29) (size := 5) (w1.alloc (.cells #[.slice none 0 0] 27)) #[] 0 (by simp; omega) (by unfold maxLen; omega) rfl
    simpa [OwnActs, actCells] using this
  case round =>
    obtain ⟨j, gd, cd, D, v, hj, hj40, hg, rfl, rfl, hbs⟩ := hrel
    have HG := Lib.hid hg; have HB := Lib.hid hbs; clear hg hbs
    by_cases hcont : j < acts.length ∧ j < 40
    · obtain ⟨hlt, hlt2⟩ := hcont
      obtain ⟨b, off, hAe, hb, hact⟩ := HA.out j hlt
      subst hAe
      have hxok : (acts.getD j noAct).Ok := HOK.out _ (by simp [hlt])
      generalize acts.getD j noAct = x at hact hxok
      have hact2 := hact.keep (HB.out.below.block b hb)
      have c0 := hact2.c0; have c1 := hact2.c1; have c2 := hact2.c2; have c3 := hact2.c3; have c4 := hact2.c4
      have HX := Lib.hid hxok; clear hact hact2 hxok
      by_cases hbig : 1024 < x.s.size
      · go_wp2_with fail
        go_ret
        exact ⟨rfl, HB.out.below.alloc HB.out.below.size _⟩
      have o0 : Out (wr.alloc (.cells #[.int .i64 x.kind, .int .i64 x.wd, .int .i64 x.n, .int .i64 x.m, .string x.s] 29)) w.heap.size w1.heap.size v (D.flatMap bytesB) := HB.out.out.alloc _
      have d0 : OwnActs (wr.alloc (.cells #[.int .i64 x.kind, .int .i64 x.wd, .int .i64 x.n, .int .i64 x.m, .string x.s] 29)) w.heap.size gd cd D := HB.out.d.alloc _
      have b0 : Below w.heap.size w (wr.alloc (.cells #[.int .i64 x.kind, .int .i64 x.wd, .int .i64 x.n, .int .i64 x.m, .string x.s] 29)) := HB.out.below.alloc HB.out.below.size _
      have x0 : At (wr.alloc (.cells #[.int .i64 x.kind, .int .i64 x.wd, .int .i64 x.n, .int .i64 x.m, .string x.s] 29)) wr.heap.size 29 #[.int .i64 x.kind, .int .i64 x.wd, .int .i64 x.n, .int .i64 x.m, .string x.s] := At.new _ _ _
      have hzw : w.heap.size ≤ wr.heap.size := HB.out.below.size
      have hlenD := HB.out.len
      have hD40 : D.length ≤ 40 := by have := HB.out.dl; omega
      have O0 := Lib.hid o0; have D0 := Lib.hid d0; have B0 := Lib.hid b0; have X0 := Lib.hid x0; have HLD := Lib.hid hlenD; clear o0 d0 b0 x0 hlenD
      by_cases hk1 : x.kind = 1
      · have hk1' : (x.kind == 1) = true := by simpa using hk1
        have hk2' : (x.kind == 2) = false := by simp; omega
        have HK1 := Lib.hid hk1; clear hk1
        by_cases hok2 : okNums x.wd [x.n] = true ∧ okNums x.wd [x.m] = true
        · have hboth : okNums x.wd [x.n, x.m] = true := by rw [okNums_two, hok2.1, hok2.2]; rfl
          have hdn : Done x := ⟨HX.out, by omega, fun _ => hok2⟩
          have HBOTH := Lib.hid hboth; have HDN := Lib.hid hdn; clear hboth hdn hok2
          go_wp2_with fail
          refine (num_two w.heap.size w1.heap.size (wr.heap.size + 1) 2 v (D.flatMap bytesB) x.wd x.n x.m _ (O0.out.alloc _) (by simp; omega) (by simp [go_sem]) (by simp [go_sem]) HX.out.n HX.out.m (by have := HLD.out; omega) (O0.out.not_new (by simp))).mono ?_
          rintro e wA ⟨rfl, hwA⟩
          rw [HBOTH.out]
          rw [numd_yes _ HBOTH.out, nums_two, ← bytesB_1 HK1.out] at hwA
          have dA := own_wrote (D0.out.alloc _) (O0.out.alloc _) hwA
          have xA := At.wrote (X0.out.alloc _) (O0.out.alloc _) hwA
          have bA := below_wrote (B0.out.alloc B0.out.size _) (O0.out.alloc _) hwA
          obtain ⟨vA, oA, _, _⟩ := hwA
          have k0 := At.cell xA 0; have k1 := At.cell xA 1; have k2 := At.cell xA 2; have k3 := At.cell xA 3; have k4 := At.cell xA 4
          have zA : w.heap.size ≤ wA.heap.size := bA.size
          have OA := Lib.hid oA; have DA := Lib.hid dA; have BA := Lib.hid bA; clear oA dA bA xA
          go_wp2_with (at_builtin; (refine wpList_append_acts _ rfl (.tmp 70) (.tmp 72) rfl w.heap.size gd cd D.length D (DA.out.alloc _) rfl rfl (some ⟨wA.heap.size, 0, none⟩) 1 1 [x] (src_new wA x) rfl rfl (by simp; omega) (by simp; omega) (D.length + 1) rfl (wA.heap.size + 1) (by simp) ?_); intro g9 cap9 w9 hown9 hgrow9 hat9; have o9 := out_grown (OA.out.alloc _) (DA.out.alloc _) rfl (by decide) (by decide) hgrow9; have b9 : Below w.heap.size w w9 := (BA.out.alloc zA _).grown hgrow9 (by simp; omega) (fun k e1 => (by injection e1 with e1; subst e1; exact DA.out.lt.1)); have O9 := Lib.hid o9; have D9 := Lib.hid hown9; have B9 := Lib.hid b9; clear o9 b9 hown9 hgrow9 hat9)
          go_roundg (acts.length - (j + 1))
          case measure => have := HG.out; omega
          case rel =>
            refine ⟨j + 1, g9, cap9, D ++ [x], vA, by omega, by omega, rfl, by simp, by go_num, ⟨by rw [flatB_snoc]; exact O9.out, D9.out, B9.out, ?_, by have := HB.out.dl; simp; omega, ?_⟩⟩
            · intro a ha
              rcases List.mem_append.1 ha with ha | ha
              · exact HB.out.dok a ha
              · simp at ha; subst ha; exact HDN.out
            · rw [flatB_snoc, List.length_append]; have := bytesB_length HDN.out; have := HLD.out; omega
        · have hboth : okNums x.wd [x.n, x.m] = false := by
            rw [okNums_two, Bool.eq_false_iff]; intro h9; rw [Bool.and_eq_true] at h9; exact hok2 h9
          have HBOTH := Lib.hid hboth; clear hboth hok2
          go_wp2_with fail
          refine (num_two w.heap.size w1.heap.size (wr.heap.size + 1) 2 v (D.flatMap bytesB) x.wd x.n x.m _ (O0.out.alloc _) (by simp; omega) (by simp [go_sem]) (by simp [go_sem]) HX.out.n HX.out.m (by have := HLD.out; omega) (O0.out.not_new (by simp))).mono ?_
          rintro e wA ⟨rfl, hwA⟩
          rw [HBOTH.out]
          rw [numd_no _ HBOTH.out] at hwA
          have dA := own_wrote (D0.out.alloc _) (O0.out.alloc _) hwA
          have xA := At.wrote (X0.out.alloc _) (O0.out.alloc _) hwA
          have bA := below_wrote (B0.out.alloc B0.out.size _) (O0.out.alloc _) hwA
          obtain ⟨vA, oA, _, _⟩ := hwA
          have k0 := At.cell xA 0; have k1 := At.cell xA 1; have k2 := At.cell xA 2; have k3 := At.cell xA 3; have k4 := At.cell xA 4
          have zA : w.heap.size ≤ wA.heap.size := bA.size
          have OA := Lib.hid oA; have DA := Lib.hid dA; have BA := Lib.hid bA; clear oA dA bA xA
          go_wp2_with fail
          go_roundg (acts.length - (j + 1))
          case measure => have := HG.out; omega
          case rel => exact ⟨j + 1, gd, cd, D, vA, by omega, by omega, rfl, rfl, by go_num, ⟨OA.out, DA.out, BA.out, HB.out.dok, by have := HB.out.dl; omega, by have := HLD.out; omega⟩⟩
      by_cases hk2 : x.kind = 2
      · have hk1' : (x.kind == 1) = false := by simpa using hk1
        have hk2' : (x.kind == 2) = true := by simpa using hk2
        have hdn : Done x := ⟨HX.out, by omega, fun h9 => absurd h9 hk1⟩
        have hd : decide (x.s.size ≤ 65535) = true := by simp; omega
        have HD := Lib.hid hd; have HDN := Lib.hid hdn; have HK1 := Lib.hid hk1; clear hd hdn hk1 hk2
        go_wp2_with fail
        refine (text_some w.heap.size w1.heap.size v (D.flatMap bytesB) x.s _ O0.out B0.out.size HX.out.s (by have := HLD.out; omega)).mono ?_
        rintro e wA ⟨rfl, hwA⟩
        rw [HD.out]
        rw [textd_yes _ (by omega), List.append_assoc, ← bytesB_2 HK1.out] at hwA
        have dA := own_wrote D0.out O0.out hwA
        have xA := At.wrote X0.out O0.out hwA
        have bA := below_wrote B0.out O0.out hwA
        obtain ⟨vA, oA, _, _⟩ := hwA
        have k0 := At.cell xA 0; have k1 := At.cell xA 1; have k2 := At.cell xA 2; have k3 := At.cell xA 3; have k4 := At.cell xA 4
        have zA : w.heap.size ≤ wA.heap.size := bA.size
        have OA := Lib.hid oA; have DA := Lib.hid dA; have BA := Lib.hid bA; clear oA dA bA xA
        go_wp2_with (at_builtin; (refine wpList_append_acts _ rfl (.tmp 70) (.tmp 72) rfl w.heap.size gd cd D.length D (DA.out.alloc _) rfl rfl (some ⟨wA.heap.size, 0, none⟩) 1 1 [x] (src_new wA x) rfl rfl (by simp; omega) (by simp; omega) (D.length + 1) rfl (wA.heap.size + 1) (by simp) ?_); intro g9 cap9 w9 hown9 hgrow9 hat9; have o9 := out_grown (OA.out.alloc _) (DA.out.alloc _) rfl (by decide) (by decide) hgrow9; have b9 : Below w.heap.size w w9 := (BA.out.alloc zA _).grown hgrow9 (by simp; omega) (fun k e1 => (by injection e1 with e1; subst e1; exact DA.out.lt.1)); have O9 := Lib.hid o9; have D9 := Lib.hid hown9; have B9 := Lib.hid b9; clear o9 b9 hown9 hgrow9 hat9)
        go_roundg (acts.length - (j + 1))
        case measure => have := HG.out; omega
        case rel =>
          refine ⟨j + 1, g9, cap9, D ++ [x], vA, by omega, by omega, rfl, by simp, by go_num, ⟨by rw [flatB_snoc]; exact O9.out, D9.out, B9.out, ?_, by have := HB.out.dl; simp; omega, ?_⟩⟩
          · intro a ha
            rcases List.mem_append.1 ha with ha | ha
            · exact HB.out.dok a ha
            · simp at ha; subst ha; exact HDN.out
          · rw [flatB_snoc, List.length_append]; have := bytesB_length HDN.out; have := HLD.out; omega
      · have hk1' : (x.kind == 1) = false := by simpa using hk1
        have hk2' : (x.kind == 2) = false := by simpa using hk2
        clear hk1 hk2
        go_wp2_with fail
        go_roundg (acts.length - (j + 1))
        case measure => have := HG.out; omega
        case rel => exact ⟨j + 1, gd, cd, D, v, by omega, by omega, rfl, rfl, by go_num, ⟨O0.out, D0.out, B0.out, HB.out.dok, by have := HB.out.dl; omega, by have := HLD.out; omega⟩⟩
    · have hexit : (acts.length : Int) ≤ (j : Int) ∨ ((j : Int) < (acts.length : Int) ∧ (40 : Int) ≤ (j : Int)) := by omega
      clear hcont
      rcases hexit with hge | ⟨hlt, hge⟩
      · have hzw : w.heap.size ≤ wr.heap.size := HB.out.below.size
        have hlenD : (D.flatMap bytesB).length ≤ 80000 := by have := HB.out.len; omega
        have hD40 : D.length ≤ 40 := by have := HB.out.dl; omega
        have HL5 := Lib.hid (list_any w.heap.size w1.heap.size cap2 A2 v (D.flatMap bytesB) zs wr HB.out.out hzw (HZ.out.keep HB.out.below.block) HZI.out (by omega) (by omega))
        have htl := tail_len zs (by omega)
        obtain ⟨full, hfull⟩ : ∃ full, D.flatMap bytesB ++ tailB zs = full := ⟨_, rfl⟩
        have hfl : full.length ≤ 80200 := by rw [← hfull, List.length_append]; omega
        have HFULL := Lib.hid hfull; have HTL := Lib.hid htl; have HLD := Lib.hid hlenD; clear hfull htl hlenD
        go_wp2_with fail
        refine HL5.out.mono ?_
        rintro e w2 ⟨rfl, hw2⟩
        have d2 := own_wrote HB.out.d HB.out.out hw2
        have b2 := below_wrote HB.out.below HB.out.out hw2
        obtain ⟨v2, o2, _, _⟩ := hw2
        rw [listd_tail, HFULL.out] at o2
        have O2 := Lib.hid o2; have D2 := Lib.hid d2; have B2 := Lib.hid b2; clear o2 d2 b2 HL5
        obtain ⟨T, hT⟩ : ∃ T, textOf full = T := ⟨_, rfl⟩
        have hTs : T.size ≤ 80200 := by rw [← hT, textOf_size]; exact hfl
        have HT := Lib.hid hT; clear hT
        have z2 : w.heap.size ≤ w2.heap.size := B2.out.size
        have hDok := HB.out.dok
        have HDOK := Lib.hid hDok; clear hDok
        go_wp2_with fail
        refine (string_some O2.out).mono ?_
        rintro e w' ⟨rfl, rfl⟩
        rw [HT.out]
        go_wp2_with fail
        refine (of_any T _).mono ?_
        rintro e w3 ⟨rfl, h3⟩
        have br3 : BR w w3 w1.heap.size v2 w2.heap.size gd cd D full ((D.drop 0).flatMap bytesB ++ tailB zs) := by
          rw [← h3]
          refine ⟨O2.out.alloc _, ?_, D2.out.alloc _, B2.out.alloc z2 _, z2⟩
          rw [List.drop_zero, HFULL.out, HT.out]; exact At.new _ _ _
        have BR3 := Lib.hid br3; clear br3 h3 O2 D2 B2 HB
        generalize w2.heap.size = p2 at BR3 ⊢
        clear z2
        go_wp2_with fail
        go_loopg [11] D.length (fun g s11 wx => ∃ k : Nat, k ≤ D.length ∧ g = D.length - k ∧ s11 = .int .i64 (k : Int) ∧ BR w wx w1.heap.size v2 p2 gd cd D full ((D.drop k).flatMap bytesB ++ tailB zs))
        case atStart => exact ⟨0, Nat.zero_le _, rfl, rfl, BR3.out⟩
        case round =>
          obtain ⟨k, hk, hg2, rfl, hbr⟩ := hrel
          have HG2 := Lib.hid hg2; have HR := Lib.hid hbr; clear hg2 hbr BR3
          by_cases hlt2 : k < D.length
          · have hact := HR.out.d.act k hlt2
            have hxk := HDOK.out (D.getD k noAct) (by simp [hlt2])
            have hdf := drop_flatB D k hlt2
            generalize D.getD k noAct = x at hact hxk hdf
            have c0 := hact.c0; have c1 := hact.c1; have c2 := hact.c2; have c3 := hact.c3; have c4 := hact.c4
            obtain ⟨R, hR⟩ : ∃ R, (D.drop (k + 1)).flatMap bytesB ++ tailB zs = R := ⟨_, rfl⟩
            have hrest : (D.drop k).flatMap bytesB ++ tailB zs = bytesB x ++ R := by rw [hdf, List.append_assoc, hR]
            have hrl : R.length ≤ 80200 ∧ (bytesB x ++ R).length ≤ 80200 := by
              have h1 : (D.flatMap bytesB).length = ((D.take k).flatMap bytesB).length + ((D.drop k).flatMap bytesB).length := by
                rw [← List.length_append, ← List.flatMap_append, List.take_append_drop]
              have h2 := congrArg List.length hrest
              have h3 := HLD.out
              have h4 := HTL.out
              rw [List.length_append] at h2
              constructor
              · rw [List.length_append] at h2; omega
              · omega
            have br := HR.out
            rw [hrest] at br
            have HX := Lib.hid hxk; have HRR := Lib.hid hR; have HBR := Lib.hid br; have HRL := Lib.hid hrl; clear hact hxk hdf hR hrest br hrl
            by_cases hk1 : x.kind = 1
            · have hk1' : (x.kind == 1) = true := by simpa using hk1
              obtain ⟨ok1, ok2⟩ := HX.out.n hk1
              have hrd1 := rd_num (num x.wd x.m ++ R) ok1 HX.out.ok.n.2
              have hrd2 := rd_num R ok2 HX.out.ok.m.2
              rw [← List.append_assoc, ← bytesB_1 hk1] at hrd1
              have hsz1 : (textOf (bytesB x ++ R)).size ≤ maxLen := by rw [textOf_size]; have := HRL.out.2; unfold maxLen; omega
              have hsz2 : (textOf (num x.wd x.m ++ R)).size ≤ maxLen := by
                rw [textOf_size]; have := HRL.out.2; rw [bytesB_1 hk1, List.append_assoc, List.length_append] at this; unfold maxLen; omega
              have RD1 := Lib.hid hrd1; have RD2 := Lib.hid hrd2; have SZ1 := Lib.hid hsz1; have SZ2 := Lib.hid hsz2; clear hk1 ok1 ok2 hrd1 hrd2 hsz1 hsz2
              go_wp2_with fail
              refine (inum_any x.wd (HBR.out.alloc _).inn SZ1.out).mono ?_
              rintro e w4 ⟨rfl, ht4⟩
              rw [RD1.out.2.1]
              rw [RD1.out.2.2, inB_ok RD1.out.1] at ht4
              have br4 := (HBR.out.alloc _).took ht4 rfl
              have x4 : At w4 wr.heap.size 29 #[.int .i64 x.kind, .int .i64 x.wd, .int .i64 x.n, .int .i64 x.m, .string x.s] := (At.new wr 29 #[.int .i64 x.kind, .int .i64 x.wd, .int .i64 x.n, .int .i64 x.m, .string x.s]).chg ht4.2 (fun e => by have := At.lt HBR.out.inn; omega)
              have k0 := At.cell x4 0; have k1 := At.cell x4 1; have k2 := At.cell x4 2; have k3 := At.cell x4 3; have k4 := At.cell x4 4
              have BR4 := Lib.hid br4; have X4 := Lib.hid x4; clear br4 x4 ht4
              go_wp2_with fail
              refine (inum_any x.wd BR4.out.inn SZ2.out).mono ?_
              rintro e w5 ⟨rfl, ht5⟩
              rw [RD2.out.2.1]
              rw [RD2.out.2.2, inB_ok RD2.out.1] at ht5
              have br5 := BR4.out.took ht5 rfl
              have x5 : At w5 wr.heap.size 29 #[.int .i64 x.kind, .int .i64 x.wd, .int .i64 x.n, .int .i64 x.m, .string x.s] := X4.out.chg ht5.2 (fun e => by have := At.lt HBR.out.inn; omega)
              clear k0 k1 k2 k3 k4
              have k0 := At.cell x5 0; have k1 := At.cell x5 1; have k2 := At.cell x5 2; have k3 := At.cell x5 3; have k4 := At.cell x5 4
              have BR5 := Lib.hid br5; clear br5 x5 ht5
              go_wp2_with fail
              go_roundg (D.length - (k + 1))
              case measure => have := HG2.out; omega
              case rel => exact ⟨k + 1, by omega, rfl, by go_num, by rw [HRR.out]; exact BR5.out⟩
            · have hk1' : (x.kind == 1) = false := by simpa using hk1
              have hx1024 := HX.out.s
              have hrd := rd_text (most := x.s.size) x.s R (by omega) (by omega)
              rw [← bytesB_2 hk1] at hrd
              have hsz1 : (textOf (bytesB x ++ R)).size ≤ 281474976710656 := by rw [textOf_size]; have := HRL.out.2; omega
              have RD := Lib.hid hrd; have SZ1 := Lib.hid hsz1; clear hk1 hrd hsz1
              have br3 : BR w (wr.alloc (.cells #[.int .i64 x.kind, .int .i64 x.wd, .int .i64 x.n, .int .i64 x.m, .string x.s] 29)).drew w1.heap.size v2 p2 gd cd D full (bytesB x ++ R) := (HBR.out.alloc _).drewN 1
              have x3 : At (wr.alloc (.cells #[.int .i64 x.kind, .int .i64 x.wd, .int .i64 x.n, .int .i64 x.m, .string x.s] 29)).drew wr.heap.size 29 #[.int .i64 x.kind, .int .i64 x.wd, .int .i64 x.n, .int .i64 x.m, .string x.s] := At.new _ _ _
              have np : ¬ wr.heap.size = p2 := fun e => by have := At.lt HBR.out.inn; omega
              have BR3 := Lib.hid br3; have X3 := Lib.hid x3; clear br3 x3
              go_wp2_with fail
              go_region_held3 (fun w' => w'.cell? ⟨wr.heap.size, 4, none⟩ = some (.string x.s))
                (first | go_keep | exact S4)
                ((go_at_call 18; (with_reducible refine (itext_any x.s.size BR3.out.inn SZ1.out).mono ?_); rintro e w4 ⟨rfl, ht4⟩; rw [RD.out.2.1]; rw [RD.out.2.2, tB_ok RD.out.1] at ht4; have BR4 := Lib.hid (BR3.out.took ht4 rfl); have S4 : w4.cell? ⟨wr.heap.size, 4, none⟩ = some (.string x.s) := (by rw [At.cell (X3.out.chg ht4.2 np)]; rfl); clear ht4))
              go_wp2_with fail
              go_roundg (D.length - (k + 1))
              case measure => have := HG2.out; omega
              case rel => exact ⟨k + 1, by omega, rfl, by go_num, by rw [HRR.out]; exact BR4.out⟩
          · obtain rfl : k = D.length := by omega
            have hbr := HR.out
            rw [List.drop_length, List.flatMap_nil, List.nil_append] at hbr
            have HBRT := Lib.hid hbr; clear hbr HR
            cases hall : okL zs
            · have htail : tailB zs = [] := if_neg (by rw [hall]; decide)
              have HTAIL := Lib.hid htail
              have hbre := HBRT.out
              rw [htail] at hbre
              have BRE := Lib.hid hbre; clear hbre htail hall HBRT
              have hin0 : InAt wr p2 ⟨#[]⟩ false := BRE.out.inn
              have IN0 := Lib.hid hin0; clear hin0
              go_wp2_with fail
              refine (end_some IN0.out).mono ?_
              rintro e w' ⟨rfl, rfl⟩
              have ke : (!false && (⟨#[]⟩ : ByteArray).size == 0) = true := by decide
              rw [ke]
              clear ke
              go_wp2_with fail
              refine (len_some BRE.out.out).mono ?_
              rintro e w' ⟨rfl, rfl⟩
              by_cases h0 : full.length = 0
              · rw [h0]
                go_wp2_with fail
                go_ret
                exact ⟨rfl, BRE.out.below⟩
              · obtain ⟨L, hL⟩ : ∃ L, full.length = L + 1 := ⟨full.length - 1, by omega⟩
                rw [hL]
                have hLb : L ≤ 80200 := by omega
                have htl : (T.size : Int) = (L : Int) + 1 := by have : T.size = L + 1 := (by rw [← HT.out, textOf_size, hL]); omega
                have hTs1 : (L : Int) ≤ (T.size : Int) := by omega
                have hcut : T.extract 0 L = textOf full.dropLast := by
                  apply ByteArray.ext; apply Array.ext'; rw [← HT.out, textOf, textOf]; simp; rw [List.dropLast_eq_take, hL]; rfl
                have HCUT := Lib.hid hcut; have HTL2 := Lib.hid htl; have HL := Lib.hid hL; clear hcut htl hL h0 hfl
                go_wp2_with fail
                refine (string_some BRE.out.out).mono ?_
                rintro e w' ⟨rfl, rfl⟩
                rw [HT.out]
                go_wp2_with fail
                refine (len_some BRE.out.out).mono ?_
                rintro e w' ⟨rfl, rfl⟩
                rw [HL.out]
                go_wp2_with fail
                refine (of_any _ _).mono ?_
                rintro e w5 ⟨rfl, h5⟩
                have bj5 : BJ w w5 wr.heap.size gd cd D ((D.drop 0).flatMap bytesB ++ tailB zs) (textOf full.dropLast) false := by
                  rw [← h5, HCUT.out]
                  refine ⟨At.new _ _ _, .inr ⟨rfl, ?_, by rw [List.drop_zero, HFULL.out]⟩, BRE.out.d.alloc _, BRE.out.below.alloc BRE.out.below.size _, BRE.out.below.size, ?_⟩
                  · rw [List.drop_zero, HFULL.out]; intro e9; have := HL.out; rw [e9] at this; simp at this
                  · rw [textOf_size, List.length_dropLast, HL.out]; omega
                have BJ5 := Lib.hid bj5; clear bj5 h5 BRE
                generalize wr.heap.size = p3 at BJ5 ⊢
                go_wp2_with fail
                go_loopg [18] D.length (fun g s18 wx => ∃ (k : Nat) (s : ByteArray) (bad : Bool), k ≤ D.length ∧ g = D.length - k ∧ s18 = .int .i64 (k : Int) ∧ BJ w wx p3 gd cd D ((D.drop k).flatMap bytesB ++ tailB zs) s bad)
                case atStart => exact ⟨0, _, _, Nat.zero_le _, rfl, rfl, BJ5.out⟩
                case round =>
                  obtain ⟨k, s, bad, hk, hg3, rfl, hbj⟩ := hrel
                  have HG3 := Lib.hid hg3; have HJ := Lib.hid hbj; clear hg3 hbj BJ5
                  by_cases hlt3 : k < D.length
                  · have hact := HJ.out.d.act k hlt3
                    have hxk := HDOK.out (D.getD k noAct) (by simp [hlt3])
                    have hdf := drop_flatB D k hlt3
                    generalize D.getD k noAct = x at hact hxk hdf
                    have c0 := hact.c0; have c1 := hact.c1
                    obtain ⟨R, hR⟩ : ∃ R, (D.drop (k + 1)).flatMap bytesB ++ tailB zs = R := ⟨_, rfl⟩
                    have hrest : (D.drop k).flatMap bytesB ++ tailB zs = bytesB x ++ R := by rw [hdf, List.append_assoc, hR]
                    have bj := HJ.out
                    rw [hrest] at bj
                    have HX := Lib.hid hxk; have HRR := Lib.hid hR; have HBJ := Lib.hid bj; clear hact hxk hdf hR hrest bj
                    by_cases hk1 : x.kind = 1
                    · have hk1' : (x.kind == 1) = true := by simpa using hk1
                      obtain ⟨ok1, ok2⟩ := HX.out.n hk1
                      have hjb := HBJ.out.jb
                      rw [bytesB_1 hk1, List.append_assoc] at hjb
                      have j1 := JB_num ok1 HX.out.ok.n.2 hjb
                      have j2 := JB_num ok2 HX.out.ok.m.2 j1
                      have J1 := Lib.hid j1; have J2 := Lib.hid j2; clear hk1 ok1 ok2 hjb j1 j2
                      go_wp2_with fail
                      refine (inum_any x.wd HBJ.out.inn (by have := HBJ.out.size; unfold maxLen; omega)).mono ?_
                      rintro e w6 ⟨rfl, ht6⟩
                      have bj6 := HBJ.out.took ht6 J1.out (inS_size _ _)
                      have hact6 := bj6.d.act k hlt3
                      have c16 : w6.cell? ⟨gd, k * 5 + 1, none⟩ = some (.int .i64 x.wd) := by
                        rw [← c1]; exact World.cell?_of_block (a := ⟨gd, k * 5 + 1, none⟩) (ht6.2.block gd HBJ.out.d.lt.2 (fun e => by subst e; exact own_ne HBJ.out.d HBJ.out.inn (by decide) rfl))
                      have BJ6 := Lib.hid bj6; clear bj6 ht6 hact6
                      go_wp2_with fail
                      refine (inum_any x.wd BJ6.out.inn (by have := BJ6.out.size; unfold maxLen; omega)).mono ?_
                      rintro e w7 ⟨rfl, ht7⟩
                      have bj7 := BJ6.out.took ht7 J2.out (inS_size _ _)
                      have BJ7 := Lib.hid bj7; clear bj7 ht7
                      go_wp2_with fail
                      go_roundg (D.length - (k + 1))
                      case measure => have := HG3.out; omega
                      case rel => exact ⟨k + 1, _, _, by omega, rfl, by go_num, by rw [HRR.out]; exact BJ7.out⟩
                    · have hk1' : (x.kind == 1) = false := by simpa using hk1
                      have hx1024 := HX.out.s
                      have hjb := HBJ.out.jb
                      rw [bytesB_2 hk1] at hjb
                      have j1 := JB_text (most := 1024) x.s (by omega) (by omega) hjb
                      have J1 := Lib.hid j1; clear hk1 hjb j1
                      go_wp2_with fail
                      refine (itext_any 1024 HBJ.out.inn (by have := HBJ.out.size; omega)).mono ?_
                      rintro e w6 ⟨rfl, ht6⟩
                      have bj6 := HBJ.out.took ht6 J1.out (tS_size _ _)
                      have BJ6 := Lib.hid bj6; clear bj6 ht6
                      go_wp2_with fail
                      go_roundg (D.length - (k + 1))
                      case measure => have := HG3.out; omega
                      case rel => exact ⟨k + 1, _, _, by omega, rfl, by go_num, by rw [HRR.out]; exact BJ6.out⟩
                  · obtain rfl : k = D.length := by omega
                    have bj := HJ.out
                    rw [List.drop_length, List.flatMap_nil, List.nil_append] at bj
                    have HBJ := Lib.hid bj; clear bj
                    have hbad : bad = true := by
                      rcases HBJ.out.jb with ⟨h9, _⟩ | ⟨_, h9, _⟩
                      · exact h9
                      · exact absurd HTAIL.out h9
                    subst hbad
                    go_wp2_with fail
                    refine (bad_some HBJ.out.inn).mono ?_
                    rintro e w' ⟨rfl, rfl⟩
                    go_wp2_with fail
                    go_ret
                    exact ⟨rfl, HBJ.out.below⟩
            · obtain ⟨hr1, hr2, hr3, hr4⟩ := rd_list hall (by omega)
              have HALL := Lib.hid hall; clear hall
              have hread := read_ok zs.length HBRT.out.inn (by rw [textOf_size]; have := HTL.out; omega) hr1
              rw [hr3, hr2, hr4] at hread
              have HREAD := Lib.hid hread; clear hread hr1 hr2 hr3 hr4
              go_wp2_with fail
              refine HREAD.out.mono ?_
              rintro e w4 ⟨a, cap4, rfl, hla, hin4, hc4⟩
              have br4 : BR w w4 w1.heap.size v2 p2 gd cd D full [] := HBRT.out.took (T := ⟨#[]⟩) ⟨hin4, hc4⟩ rfl
              have hla' : ListAt w4 w.heap.size a (nums 1 zs) := fun i hi => by
                obtain ⟨g, e, hg, hcc⟩ := hla i hi
                exact ⟨g, e, Nat.le_trans HBRT.out.below.size hg, hcc⟩
              have BR4 := Lib.hid br4; have LA4 := Lib.hid hla'; clear br4 hla hla' hin4 hc4 HREAD HBRT
              go_wp2_with fail
              go_loopg [16] zs.length (fun g s16 wx => ∃ k : Nat, k ≤ zs.length ∧ g = zs.length - k ∧ s16 = .int .i64 (k : Int) ∧ BR w wx w1.heap.size v2 p2 gd cd D full [] ∧ ListAt wx w.heap.size a (nums 1 zs))
              case atStart => exact ⟨0, Nat.zero_le _, rfl, rfl, BR4.out, LA4.out⟩
              case round =>
                obtain ⟨k, hk4, hg4, rfl, hbr4, hla4⟩ := hrel
                have HG4 := Lib.hid hg4; have HBR4 := Lib.hid hbr4; have HLA4 := Lib.hid hla4; clear hg4 hbr4 hla4 BR4 LA4
                by_cases hlt4 : k < zs.length
                · obtain ⟨g, hae, _, hcell⟩ := HLA4.out k (by rw [nums1_length]; exact hlt4)
                  subst hae
                  rw [nums1_get zs HALL.out k hlt4] at hcell
                  obtain ⟨b, off, hAe, hb, hcell0⟩ := HZ.out k hlt4
                  subst hAe
                  have hcell2 : wr.cell? ⟨b, off + k, none⟩ = some (.int .i64 (zs.getD k 0)) := (HBR4.out.below.cell (p := ⟨b, off + k, none⟩) hb).trans hcell0
                  clear hcell0
                  generalize zs.getD k 0 = y at hcell hcell2
                  go_wp2_with fail
                  go_quiet (fail)
                  go_wp2_with fail
                  go_roundg (zs.length - (k + 1))
                  case measure => have := HG4.out; omega
                  case rel => exact ⟨k + 1, by omega, rfl, by go_num, HBR4.out.drewN _, HLA4.out⟩
                · obtain rfl : k = zs.length := by omega
                  have BRE : Hid (BR w wr w1.heap.size v2 p2 gd cd D full []) := HBR4.out
                  clear HBR4 HLA4
                  have hin0 : InAt wr p2 ⟨#[]⟩ false := BRE.out.inn
                  have IN0 := Lib.hid hin0; clear hin0
                  go_wp2_with fail
                  refine (end_some IN0.out).mono ?_
                  rintro e w' ⟨rfl, rfl⟩
                  have ke : (!false && (⟨#[]⟩ : ByteArray).size == 0) = true := by decide
                  rw [ke]
                  clear ke
                  go_wp2_with fail
                  refine (len_some BRE.out.out).mono ?_
                  rintro e w' ⟨rfl, rfl⟩
                  by_cases h0 : full.length = 0
                  · rw [h0]
                    go_wp2_with fail
                    go_ret
                    exact ⟨rfl, BRE.out.below⟩
                  · obtain ⟨L, hL⟩ : ∃ L, full.length = L + 1 := ⟨full.length - 1, by omega⟩
                    rw [hL]
                    have hLb : L ≤ 80200 := by omega
                    have htl : (T.size : Int) = (L : Int) + 1 := by have : T.size = L + 1 := (by rw [← HT.out, textOf_size, hL]); omega
                    have hTs1 : (L : Int) ≤ (T.size : Int) := by omega
                    have hcut : T.extract 0 L = textOf full.dropLast := by
                      apply ByteArray.ext; apply Array.ext'; rw [← HT.out, textOf, textOf]; simp; rw [List.dropLast_eq_take, hL]; rfl
                    have HCUT := Lib.hid hcut; have HTL2 := Lib.hid htl; have HL := Lib.hid hL; clear hcut htl hL h0 hfl
                    go_wp2_with fail
                    refine (string_some BRE.out.out).mono ?_
                    rintro e w' ⟨rfl, rfl⟩
                    rw [HT.out]
                    go_wp2_with fail
                    refine (len_some BRE.out.out).mono ?_
                    rintro e w' ⟨rfl, rfl⟩
                    rw [HL.out]
                    go_wp2_with fail
                    refine (of_any _ _).mono ?_
                    rintro e w5 ⟨rfl, h5⟩
                    have bj5 : BJ w w5 wr.heap.size gd cd D ((D.drop 0).flatMap bytesB ++ tailB zs) (textOf full.dropLast) false := by
                      rw [← h5, HCUT.out]
                      refine ⟨At.new _ _ _, .inr ⟨rfl, ?_, by rw [List.drop_zero, HFULL.out]⟩, BRE.out.d.alloc _, BRE.out.below.alloc BRE.out.below.size _, BRE.out.below.size, ?_⟩
                      · rw [List.drop_zero, HFULL.out]; intro e9; have := HL.out; rw [e9] at this; simp at this
                      · rw [textOf_size, List.length_dropLast, HL.out]; omega
                    have BJ5 := Lib.hid bj5; clear bj5 h5 BRE
                    generalize wr.heap.size = p3 at BJ5 ⊢
                    go_wp2_with fail
                    go_loopg [18] D.length (fun g s18 wx => ∃ (k : Nat) (s : ByteArray) (bad : Bool), k ≤ D.length ∧ g = D.length - k ∧ s18 = .int .i64 (k : Int) ∧ BJ w wx p3 gd cd D ((D.drop k).flatMap bytesB ++ tailB zs) s bad)
                    case atStart => exact ⟨0, _, _, Nat.zero_le _, rfl, rfl, BJ5.out⟩
                    case round =>
                      obtain ⟨k, s, bad, hk, hg3, rfl, hbj⟩ := hrel
                      have HG3 := Lib.hid hg3; have HJ := Lib.hid hbj; clear hg3 hbj BJ5
                      by_cases hlt3 : k < D.length
                      · have hact := HJ.out.d.act k hlt3
                        have hxk := HDOK.out (D.getD k noAct) (by simp [hlt3])
                        have hdf := drop_flatB D k hlt3
                        generalize D.getD k noAct = x at hact hxk hdf
                        have c0 := hact.c0; have c1 := hact.c1
                        obtain ⟨R, hR⟩ : ∃ R, (D.drop (k + 1)).flatMap bytesB ++ tailB zs = R := ⟨_, rfl⟩
                        have hrest : (D.drop k).flatMap bytesB ++ tailB zs = bytesB x ++ R := by rw [hdf, List.append_assoc, hR]
                        have bj := HJ.out
                        rw [hrest] at bj
                        have HX := Lib.hid hxk; have HRR := Lib.hid hR; have HBJ := Lib.hid bj; clear hact hxk hdf hR hrest bj
                        by_cases hk1 : x.kind = 1
                        · have hk1' : (x.kind == 1) = true := by simpa using hk1
                          obtain ⟨ok1, ok2⟩ := HX.out.n hk1
                          have hjb := HBJ.out.jb
                          rw [bytesB_1 hk1, List.append_assoc] at hjb
                          have j1 := JB_num ok1 HX.out.ok.n.2 hjb
                          have j2 := JB_num ok2 HX.out.ok.m.2 j1
                          have J1 := Lib.hid j1; have J2 := Lib.hid j2; clear hk1 ok1 ok2 hjb j1 j2
                          go_wp2_with fail
                          refine (inum_any x.wd HBJ.out.inn (by have := HBJ.out.size; unfold maxLen; omega)).mono ?_
                          rintro e w6 ⟨rfl, ht6⟩
                          have bj6 := HBJ.out.took ht6 J1.out (inS_size _ _)
                          have hact6 := bj6.d.act k hlt3
                          have c16 : w6.cell? ⟨gd, k * 5 + 1, none⟩ = some (.int .i64 x.wd) := by
                            rw [← c1]; exact World.cell?_of_block (a := ⟨gd, k * 5 + 1, none⟩) (ht6.2.block gd HBJ.out.d.lt.2 (fun e => by subst e; exact own_ne HBJ.out.d HBJ.out.inn (by decide) rfl))
                          have BJ6 := Lib.hid bj6; clear bj6 ht6 hact6
                          go_wp2_with fail
                          refine (inum_any x.wd BJ6.out.inn (by have := BJ6.out.size; unfold maxLen; omega)).mono ?_
                          rintro e w7 ⟨rfl, ht7⟩
                          have bj7 := BJ6.out.took ht7 J2.out (inS_size _ _)
                          have BJ7 := Lib.hid bj7; clear bj7 ht7
                          go_wp2_with fail
                          go_roundg (D.length - (k + 1))
                          case measure => have := HG3.out; omega
                          case rel => exact ⟨k + 1, _, _, by omega, rfl, by go_num, by rw [HRR.out]; exact BJ7.out⟩
                        · have hk1' : (x.kind == 1) = false := by simpa using hk1
                          have hx1024 := HX.out.s
                          have hjb := HBJ.out.jb
                          rw [bytesB_2 hk1] at hjb
                          have j1 := JB_text (most := 1024) x.s (by omega) (by omega) hjb
                          have J1 := Lib.hid j1; clear hk1 hjb j1
                          go_wp2_with fail
                          refine (itext_any 1024 HBJ.out.inn (by have := HBJ.out.size; omega)).mono ?_
                          rintro e w6 ⟨rfl, ht6⟩
                          have bj6 := HBJ.out.took ht6 J1.out (tS_size _ _)
                          have BJ6 := Lib.hid bj6; clear bj6 ht6
                          go_wp2_with fail
                          go_roundg (D.length - (k + 1))
                          case measure => have := HG3.out; omega
                          case rel => exact ⟨k + 1, _, _, by omega, rfl, by go_num, by rw [HRR.out]; exact BJ6.out⟩
                      · obtain rfl : k = D.length := by omega
                        have bj := HJ.out
                        rw [List.drop_length, List.flatMap_nil, List.nil_append] at bj
                        have HBJ := Lib.hid bj; clear bj
                        obtain ⟨hrt, hbs⟩ := JB_list HALL.out (by omega) HBJ.out.jb
                        have HRT := Lib.hid hrt; have HBS := Lib.hid hbs; clear hrt hbs
                        go_wp2_with fail
                        refine (read_bad 100 HBJ.out.inn (by have := HBJ.out.size; omega) HRT.out HBS.out).mono ?_
                        rintro e w6 ⟨rfl, hin6, hc6⟩
                        have b6 : Below w.heap.size w w6 := HBJ.out.below.trans (hc6.toBelow HBJ.out.below.size (fun k hk e => by have := HBJ.out.le; omega))
                        have IN6 := Lib.hid hin6; have B6 := Lib.hid b6; clear hin6 hc6 b6
                        go_wp2_with fail
                        refine (bad_some IN6.out).mono ?_
                        rintro e w' ⟨rfl, rfl⟩
                        go_wp2_with fail
                        go_ret
                        exact ⟨rfl, B6.out⟩
      · have hzw : w.heap.size ≤ wr.heap.size := HB.out.below.size
        have hlenD : (D.flatMap bytesB).length ≤ 80000 := by have := HB.out.len; omega
        have hD40 : D.length ≤ 40 := by have := HB.out.dl; omega
        have HL5 := Lib.hid (list_any w.heap.size w1.heap.size cap2 A2 v (D.flatMap bytesB) zs wr HB.out.out hzw (HZ.out.keep HB.out.below.block) HZI.out (by omega) (by omega))
        have htl := tail_len zs (by omega)
        obtain ⟨full, hfull⟩ : ∃ full, D.flatMap bytesB ++ tailB zs = full := ⟨_, rfl⟩
        have hfl : full.length ≤ 80200 := by rw [← hfull, List.length_append]; omega
        have HFULL := Lib.hid hfull; have HTL := Lib.hid htl; have HLD := Lib.hid hlenD; clear hfull htl hlenD
        go_wp2_with fail
        refine HL5.out.mono ?_
        rintro e w2 ⟨rfl, hw2⟩
        have d2 := own_wrote HB.out.d HB.out.out hw2
        have b2 := below_wrote HB.out.below HB.out.out hw2
        obtain ⟨v2, o2, _, _⟩ := hw2
        rw [listd_tail, HFULL.out] at o2
        have O2 := Lib.hid o2; have D2 := Lib.hid d2; have B2 := Lib.hid b2; clear o2 d2 b2 HL5
        obtain ⟨T, hT⟩ : ∃ T, textOf full = T := ⟨_, rfl⟩
        have hTs : T.size ≤ 80200 := by rw [← hT, textOf_size]; exact hfl
        have HT := Lib.hid hT; clear hT
        have z2 : w.heap.size ≤ w2.heap.size := B2.out.size
        have hDok := HB.out.dok
        have HDOK := Lib.hid hDok; clear hDok
        go_wp2_with fail
        refine (string_some O2.out).mono ?_
        rintro e w' ⟨rfl, rfl⟩
        rw [HT.out]
        go_wp2_with fail
        refine (of_any T _).mono ?_
        rintro e w3 ⟨rfl, h3⟩
        have br3 : BR w w3 w1.heap.size v2 w2.heap.size gd cd D full ((D.drop 0).flatMap bytesB ++ tailB zs) := by
          rw [← h3]
          refine ⟨O2.out.alloc _, ?_, D2.out.alloc _, B2.out.alloc z2 _, z2⟩
          rw [List.drop_zero, HFULL.out, HT.out]; exact At.new _ _ _
        have BR3 := Lib.hid br3; clear br3 h3 O2 D2 B2 HB
        generalize w2.heap.size = p2 at BR3 ⊢
        clear z2
        go_wp2_with fail
        go_loopg [11] D.length (fun g s11 wx => ∃ k : Nat, k ≤ D.length ∧ g = D.length - k ∧ s11 = .int .i64 (k : Int) ∧ BR w wx w1.heap.size v2 p2 gd cd D full ((D.drop k).flatMap bytesB ++ tailB zs))
        case atStart => exact ⟨0, Nat.zero_le _, rfl, rfl, BR3.out⟩
        case round =>
          obtain ⟨k, hk, hg2, rfl, hbr⟩ := hrel
          have HG2 := Lib.hid hg2; have HR := Lib.hid hbr; clear hg2 hbr BR3
          by_cases hlt2 : k < D.length
          · have hact := HR.out.d.act k hlt2
            have hxk := HDOK.out (D.getD k noAct) (by simp [hlt2])
            have hdf := drop_flatB D k hlt2
            generalize D.getD k noAct = x at hact hxk hdf
            have c0 := hact.c0; have c1 := hact.c1; have c2 := hact.c2; have c3 := hact.c3; have c4 := hact.c4
            obtain ⟨R, hR⟩ : ∃ R, (D.drop (k + 1)).flatMap bytesB ++ tailB zs = R := ⟨_, rfl⟩
            have hrest : (D.drop k).flatMap bytesB ++ tailB zs = bytesB x ++ R := by rw [hdf, List.append_assoc, hR]
            have hrl : R.length ≤ 80200 ∧ (bytesB x ++ R).length ≤ 80200 := by
              have h1 : (D.flatMap bytesB).length = ((D.take k).flatMap bytesB).length + ((D.drop k).flatMap bytesB).length := by
                rw [← List.length_append, ← List.flatMap_append, List.take_append_drop]
              have h2 := congrArg List.length hrest
              have h3 := HLD.out
              have h4 := HTL.out
              rw [List.length_append] at h2
              constructor
              · rw [List.length_append] at h2; omega
              · omega
            have br := HR.out
            rw [hrest] at br
            have HX := Lib.hid hxk; have HRR := Lib.hid hR; have HBR := Lib.hid br; have HRL := Lib.hid hrl; clear hact hxk hdf hR hrest br hrl
            by_cases hk1 : x.kind = 1
            · have hk1' : (x.kind == 1) = true := by simpa using hk1
              obtain ⟨ok1, ok2⟩ := HX.out.n hk1
              have hrd1 := rd_num (num x.wd x.m ++ R) ok1 HX.out.ok.n.2
              have hrd2 := rd_num R ok2 HX.out.ok.m.2
              rw [← List.append_assoc, ← bytesB_1 hk1] at hrd1
              have hsz1 : (textOf (bytesB x ++ R)).size ≤ maxLen := by rw [textOf_size]; have := HRL.out.2; unfold maxLen; omega
              have hsz2 : (textOf (num x.wd x.m ++ R)).size ≤ maxLen := by
                rw [textOf_size]; have := HRL.out.2; rw [bytesB_1 hk1, List.append_assoc, List.length_append] at this; unfold maxLen; omega
              have RD1 := Lib.hid hrd1; have RD2 := Lib.hid hrd2; have SZ1 := Lib.hid hsz1; have SZ2 := Lib.hid hsz2; clear hk1 ok1 ok2 hrd1 hrd2 hsz1 hsz2
              go_wp2_with fail
              refine (inum_any x.wd (HBR.out.alloc _).inn SZ1.out).mono ?_
              rintro e w4 ⟨rfl, ht4⟩
              rw [RD1.out.2.1]
              rw [RD1.out.2.2, inB_ok RD1.out.1] at ht4
              have br4 := (HBR.out.alloc _).took ht4 rfl
              have x4 : At w4 wr.heap.size 29 #[.int .i64 x.kind, .int .i64 x.wd, .int .i64 x.n, .int .i64 x.m, .string x.s] := (At.new wr 29 #[.int .i64 x.kind, .int .i64 x.wd, .int .i64 x.n, .int .i64 x.m, .string x.s]).chg ht4.2 (fun e => by have := At.lt HBR.out.inn; omega)
              have k0 := At.cell x4 0; have k1 := At.cell x4 1; have k2 := At.cell x4 2; have k3 := At.cell x4 3; have k4 := At.cell x4 4
              have BR4 := Lib.hid br4; have X4 := Lib.hid x4; clear br4 x4 ht4
              go_wp2_with fail
              refine (inum_any x.wd BR4.out.inn SZ2.out).mono ?_
              rintro e w5 ⟨rfl, ht5⟩
              rw [RD2.out.2.1]
              rw [RD2.out.2.2, inB_ok RD2.out.1] at ht5
              have br5 := BR4.out.took ht5 rfl
              have x5 : At w5 wr.heap.size 29 #[.int .i64 x.kind, .int .i64 x.wd, .int .i64 x.n, .int .i64 x.m, .string x.s] := X4.out.chg ht5.2 (fun e => by have := At.lt HBR.out.inn; omega)
              clear k0 k1 k2 k3 k4
              have k0 := At.cell x5 0; have k1 := At.cell x5 1; have k2 := At.cell x5 2; have k3 := At.cell x5 3; have k4 := At.cell x5 4
              have BR5 := Lib.hid br5; clear br5 x5 ht5
              go_wp2_with fail
              go_roundg (D.length - (k + 1))
              case measure => have := HG2.out; omega
              case rel => exact ⟨k + 1, by omega, rfl, by go_num, by rw [HRR.out]; exact BR5.out⟩
            · have hk1' : (x.kind == 1) = false := by simpa using hk1
              have hx1024 := HX.out.s
              have hrd := rd_text (most := x.s.size) x.s R (by omega) (by omega)
              rw [← bytesB_2 hk1] at hrd
              have hsz1 : (textOf (bytesB x ++ R)).size ≤ 281474976710656 := by rw [textOf_size]; have := HRL.out.2; omega
              have RD := Lib.hid hrd; have SZ1 := Lib.hid hsz1; clear hk1 hrd hsz1
              have br3 : BR w (wr.alloc (.cells #[.int .i64 x.kind, .int .i64 x.wd, .int .i64 x.n, .int .i64 x.m, .string x.s] 29)).drew w1.heap.size v2 p2 gd cd D full (bytesB x ++ R) := (HBR.out.alloc _).drewN 1
              have x3 : At (wr.alloc (.cells #[.int .i64 x.kind, .int .i64 x.wd, .int .i64 x.n, .int .i64 x.m, .string x.s] 29)).drew wr.heap.size 29 #[.int .i64 x.kind, .int .i64 x.wd, .int .i64 x.n, .int .i64 x.m, .string x.s] := At.new _ _ _
              have np : ¬ wr.heap.size = p2 := fun e => by have := At.lt HBR.out.inn; omega
              have BR3 := Lib.hid br3; have X3 := Lib.hid x3; clear br3 x3
              go_wp2_with fail
              go_region_held3 (fun w' => w'.cell? ⟨wr.heap.size, 4, none⟩ = some (.string x.s))
                (first | go_keep | exact S4)
                ((go_at_call 18; (with_reducible refine (itext_any x.s.size BR3.out.inn SZ1.out).mono ?_); rintro e w4 ⟨rfl, ht4⟩; rw [RD.out.2.1]; rw [RD.out.2.2, tB_ok RD.out.1] at ht4; have BR4 := Lib.hid (BR3.out.took ht4 rfl); have S4 : w4.cell? ⟨wr.heap.size, 4, none⟩ = some (.string x.s) := (by rw [At.cell (X3.out.chg ht4.2 np)]; rfl); clear ht4))
              go_wp2_with fail
              go_roundg (D.length - (k + 1))
              case measure => have := HG2.out; omega
              case rel => exact ⟨k + 1, by omega, rfl, by go_num, by rw [HRR.out]; exact BR4.out⟩
          · obtain rfl : k = D.length := by omega
            have hbr := HR.out
            rw [List.drop_length, List.flatMap_nil, List.nil_append] at hbr
            have HBRT := Lib.hid hbr; clear hbr HR
            cases hall : okL zs
            · have htail : tailB zs = [] := if_neg (by rw [hall]; decide)
              have HTAIL := Lib.hid htail
              have hbre := HBRT.out
              rw [htail] at hbre
              have BRE := Lib.hid hbre; clear hbre htail hall HBRT
              have hin0 : InAt wr p2 ⟨#[]⟩ false := BRE.out.inn
              have IN0 := Lib.hid hin0; clear hin0
              go_wp2_with fail
              refine (end_some IN0.out).mono ?_
              rintro e w' ⟨rfl, rfl⟩
              have ke : (!false && (⟨#[]⟩ : ByteArray).size == 0) = true := by decide
              rw [ke]
              clear ke
              go_wp2_with fail
              refine (len_some BRE.out.out).mono ?_
              rintro e w' ⟨rfl, rfl⟩
              by_cases h0 : full.length = 0
              · rw [h0]
                go_wp2_with fail
                go_ret
                exact ⟨rfl, BRE.out.below⟩
              · obtain ⟨L, hL⟩ : ∃ L, full.length = L + 1 := ⟨full.length - 1, by omega⟩
                rw [hL]
                have hLb : L ≤ 80200 := by omega
                have htl : (T.size : Int) = (L : Int) + 1 := by have : T.size = L + 1 := (by rw [← HT.out, textOf_size, hL]); omega
                have hTs1 : (L : Int) ≤ (T.size : Int) := by omega
                have hcut : T.extract 0 L = textOf full.dropLast := by
                  apply ByteArray.ext; apply Array.ext'; rw [← HT.out, textOf, textOf]; simp; rw [List.dropLast_eq_take, hL]; rfl
                have HCUT := Lib.hid hcut; have HTL2 := Lib.hid htl; have HL := Lib.hid hL; clear hcut htl hL h0 hfl
                go_wp2_with fail
                refine (string_some BRE.out.out).mono ?_
                rintro e w' ⟨rfl, rfl⟩
                rw [HT.out]
                go_wp2_with fail
                refine (len_some BRE.out.out).mono ?_
                rintro e w' ⟨rfl, rfl⟩
                rw [HL.out]
                go_wp2_with fail
                refine (of_any _ _).mono ?_
                rintro e w5 ⟨rfl, h5⟩
                have bj5 : BJ w w5 wr.heap.size gd cd D ((D.drop 0).flatMap bytesB ++ tailB zs) (textOf full.dropLast) false := by
                  rw [← h5, HCUT.out]
                  refine ⟨At.new _ _ _, .inr ⟨rfl, ?_, by rw [List.drop_zero, HFULL.out]⟩, BRE.out.d.alloc _, BRE.out.below.alloc BRE.out.below.size _, BRE.out.below.size, ?_⟩
                  · rw [List.drop_zero, HFULL.out]; intro e9; have := HL.out; rw [e9] at this; simp at this
                  · rw [textOf_size, List.length_dropLast, HL.out]; omega
                have BJ5 := Lib.hid bj5; clear bj5 h5 BRE
                generalize wr.heap.size = p3 at BJ5 ⊢
                go_wp2_with fail
                go_loopg [18] D.length (fun g s18 wx => ∃ (k : Nat) (s : ByteArray) (bad : Bool), k ≤ D.length ∧ g = D.length - k ∧ s18 = .int .i64 (k : Int) ∧ BJ w wx p3 gd cd D ((D.drop k).flatMap bytesB ++ tailB zs) s bad)
                case atStart => exact ⟨0, _, _, Nat.zero_le _, rfl, rfl, BJ5.out⟩
                case round =>
                  obtain ⟨k, s, bad, hk, hg3, rfl, hbj⟩ := hrel
                  have HG3 := Lib.hid hg3; have HJ := Lib.hid hbj; clear hg3 hbj BJ5
                  by_cases hlt3 : k < D.length
                  · have hact := HJ.out.d.act k hlt3
                    have hxk := HDOK.out (D.getD k noAct) (by simp [hlt3])
                    have hdf := drop_flatB D k hlt3
                    generalize D.getD k noAct = x at hact hxk hdf
                    have c0 := hact.c0; have c1 := hact.c1
                    obtain ⟨R, hR⟩ : ∃ R, (D.drop (k + 1)).flatMap bytesB ++ tailB zs = R := ⟨_, rfl⟩
                    have hrest : (D.drop k).flatMap bytesB ++ tailB zs = bytesB x ++ R := by rw [hdf, List.append_assoc, hR]
                    have bj := HJ.out
                    rw [hrest] at bj
                    have HX := Lib.hid hxk; have HRR := Lib.hid hR; have HBJ := Lib.hid bj; clear hact hxk hdf hR hrest bj
                    by_cases hk1 : x.kind = 1
                    · have hk1' : (x.kind == 1) = true := by simpa using hk1
                      obtain ⟨ok1, ok2⟩ := HX.out.n hk1
                      have hjb := HBJ.out.jb
                      rw [bytesB_1 hk1, List.append_assoc] at hjb
                      have j1 := JB_num ok1 HX.out.ok.n.2 hjb
                      have j2 := JB_num ok2 HX.out.ok.m.2 j1
                      have J1 := Lib.hid j1; have J2 := Lib.hid j2; clear hk1 ok1 ok2 hjb j1 j2
                      go_wp2_with fail
                      refine (inum_any x.wd HBJ.out.inn (by have := HBJ.out.size; unfold maxLen; omega)).mono ?_
                      rintro e w6 ⟨rfl, ht6⟩
                      have bj6 := HBJ.out.took ht6 J1.out (inS_size _ _)
                      have hact6 := bj6.d.act k hlt3
                      have c16 : w6.cell? ⟨gd, k * 5 + 1, none⟩ = some (.int .i64 x.wd) := by
                        rw [← c1]; exact World.cell?_of_block (a := ⟨gd, k * 5 + 1, none⟩) (ht6.2.block gd HBJ.out.d.lt.2 (fun e => by subst e; exact own_ne HBJ.out.d HBJ.out.inn (by decide) rfl))
                      have BJ6 := Lib.hid bj6; clear bj6 ht6 hact6
                      go_wp2_with fail
                      refine (inum_any x.wd BJ6.out.inn (by have := BJ6.out.size; unfold maxLen; omega)).mono ?_
                      rintro e w7 ⟨rfl, ht7⟩
                      have bj7 := BJ6.out.took ht7 J2.out (inS_size _ _)
                      have BJ7 := Lib.hid bj7; clear bj7 ht7
                      go_wp2_with fail
                      go_roundg (D.length - (k + 1))
                      case measure => have := HG3.out; omega
                      case rel => exact ⟨k + 1, _, _, by omega, rfl, by go_num, by rw [HRR.out]; exact BJ7.out⟩
                    · have hk1' : (x.kind == 1) = false := by simpa using hk1
                      have hx1024 := HX.out.s
                      have hjb := HBJ.out.jb
                      rw [bytesB_2 hk1] at hjb
                      have j1 := JB_text (most := 1024) x.s (by omega) (by omega) hjb
                      have J1 := Lib.hid j1; clear hk1 hjb j1
                      go_wp2_with fail
                      refine (itext_any 1024 HBJ.out.inn (by have := HBJ.out.size; omega)).mono ?_
                      rintro e w6 ⟨rfl, ht6⟩
                      have bj6 := HBJ.out.took ht6 J1.out (tS_size _ _)
                      have BJ6 := Lib.hid bj6; clear bj6 ht6
                      go_wp2_with fail
                      go_roundg (D.length - (k + 1))
                      case measure => have := HG3.out; omega
                      case rel => exact ⟨k + 1, _, _, by omega, rfl, by go_num, by rw [HRR.out]; exact BJ6.out⟩
                  · obtain rfl : k = D.length := by omega
                    have bj := HJ.out
                    rw [List.drop_length, List.flatMap_nil, List.nil_append] at bj
                    have HBJ := Lib.hid bj; clear bj
                    have hbad : bad = true := by
                      rcases HBJ.out.jb with ⟨h9, _⟩ | ⟨_, h9, _⟩
                      · exact h9
                      · exact absurd HTAIL.out h9
                    subst hbad
                    go_wp2_with fail
                    refine (bad_some HBJ.out.inn).mono ?_
                    rintro e w' ⟨rfl, rfl⟩
                    go_wp2_with fail
                    go_ret
                    exact ⟨rfl, HBJ.out.below⟩
            · obtain ⟨hr1, hr2, hr3, hr4⟩ := rd_list hall (by omega)
              have HALL := Lib.hid hall; clear hall
              have hread := read_ok zs.length HBRT.out.inn (by rw [textOf_size]; have := HTL.out; omega) hr1
              rw [hr3, hr2, hr4] at hread
              have HREAD := Lib.hid hread; clear hread hr1 hr2 hr3 hr4
              go_wp2_with fail
              refine HREAD.out.mono ?_
              rintro e w4 ⟨a, cap4, rfl, hla, hin4, hc4⟩
              have br4 : BR w w4 w1.heap.size v2 p2 gd cd D full [] := HBRT.out.took (T := ⟨#[]⟩) ⟨hin4, hc4⟩ rfl
              have hla' : ListAt w4 w.heap.size a (nums 1 zs) := fun i hi => by
                obtain ⟨g, e, hg, hcc⟩ := hla i hi
                exact ⟨g, e, Nat.le_trans HBRT.out.below.size hg, hcc⟩
              have BR4 := Lib.hid br4; have LA4 := Lib.hid hla'; clear br4 hla hla' hin4 hc4 HREAD HBRT
              go_wp2_with fail
              go_loopg [16] zs.length (fun g s16 wx => ∃ k : Nat, k ≤ zs.length ∧ g = zs.length - k ∧ s16 = .int .i64 (k : Int) ∧ BR w wx w1.heap.size v2 p2 gd cd D full [] ∧ ListAt wx w.heap.size a (nums 1 zs))
              case atStart => exact ⟨0, Nat.zero_le _, rfl, rfl, BR4.out, LA4.out⟩
              case round =>
                obtain ⟨k, hk4, hg4, rfl, hbr4, hla4⟩ := hrel
                have HG4 := Lib.hid hg4; have HBR4 := Lib.hid hbr4; have HLA4 := Lib.hid hla4; clear hg4 hbr4 hla4 BR4 LA4
                by_cases hlt4 : k < zs.length
                · obtain ⟨g, hae, _, hcell⟩ := HLA4.out k (by rw [nums1_length]; exact hlt4)
                  subst hae
                  rw [nums1_get zs HALL.out k hlt4] at hcell
                  obtain ⟨b, off, hAe, hb, hcell0⟩ := HZ.out k hlt4
                  subst hAe
                  have hcell2 : wr.cell? ⟨b, off + k, none⟩ = some (.int .i64 (zs.getD k 0)) := (HBR4.out.below.cell (p := ⟨b, off + k, none⟩) hb).trans hcell0
                  clear hcell0
                  generalize zs.getD k 0 = y at hcell hcell2
                  go_wp2_with fail
                  go_quiet (fail)
                  go_wp2_with fail
                  go_roundg (zs.length - (k + 1))
                  case measure => have := HG4.out; omega
                  case rel => exact ⟨k + 1, by omega, rfl, by go_num, HBR4.out.drewN _, HLA4.out⟩
                · obtain rfl : k = zs.length := by omega
                  have BRE : Hid (BR w wr w1.heap.size v2 p2 gd cd D full []) := HBR4.out
                  clear HBR4 HLA4
                  have hin0 : InAt wr p2 ⟨#[]⟩ false := BRE.out.inn
                  have IN0 := Lib.hid hin0; clear hin0
                  go_wp2_with fail
                  refine (end_some IN0.out).mono ?_
                  rintro e w' ⟨rfl, rfl⟩
                  have ke : (!false && (⟨#[]⟩ : ByteArray).size == 0) = true := by decide
                  rw [ke]
                  clear ke
                  go_wp2_with fail
                  refine (len_some BRE.out.out).mono ?_
                  rintro e w' ⟨rfl, rfl⟩
                  by_cases h0 : full.length = 0
                  · rw [h0]
                    go_wp2_with fail
                    go_ret
                    exact ⟨rfl, BRE.out.below⟩
                  · obtain ⟨L, hL⟩ : ∃ L, full.length = L + 1 := ⟨full.length - 1, by omega⟩
                    rw [hL]
                    have hLb : L ≤ 80200 := by omega
                    have htl : (T.size : Int) = (L : Int) + 1 := by have : T.size = L + 1 := (by rw [← HT.out, textOf_size, hL]); omega
                    have hTs1 : (L : Int) ≤ (T.size : Int) := by omega
                    have hcut : T.extract 0 L = textOf full.dropLast := by
                      apply ByteArray.ext; apply Array.ext'; rw [← HT.out, textOf, textOf]; simp; rw [List.dropLast_eq_take, hL]; rfl
                    have HCUT := Lib.hid hcut; have HTL2 := Lib.hid htl; have HL := Lib.hid hL; clear hcut htl hL h0 hfl
                    go_wp2_with fail
                    refine (string_some BRE.out.out).mono ?_
                    rintro e w' ⟨rfl, rfl⟩
                    rw [HT.out]
                    go_wp2_with fail
                    refine (len_some BRE.out.out).mono ?_
                    rintro e w' ⟨rfl, rfl⟩
                    rw [HL.out]
                    go_wp2_with fail
                    refine (of_any _ _).mono ?_
                    rintro e w5 ⟨rfl, h5⟩
                    have bj5 : BJ w w5 wr.heap.size gd cd D ((D.drop 0).flatMap bytesB ++ tailB zs) (textOf full.dropLast) false := by
                      rw [← h5, HCUT.out]
                      refine ⟨At.new _ _ _, .inr ⟨rfl, ?_, by rw [List.drop_zero, HFULL.out]⟩, BRE.out.d.alloc _, BRE.out.below.alloc BRE.out.below.size _, BRE.out.below.size, ?_⟩
                      · rw [List.drop_zero, HFULL.out]; intro e9; have := HL.out; rw [e9] at this; simp at this
                      · rw [textOf_size, List.length_dropLast, HL.out]; omega
                    have BJ5 := Lib.hid bj5; clear bj5 h5 BRE
                    generalize wr.heap.size = p3 at BJ5 ⊢
                    go_wp2_with fail
                    go_loopg [18] D.length (fun g s18 wx => ∃ (k : Nat) (s : ByteArray) (bad : Bool), k ≤ D.length ∧ g = D.length - k ∧ s18 = .int .i64 (k : Int) ∧ BJ w wx p3 gd cd D ((D.drop k).flatMap bytesB ++ tailB zs) s bad)
                    case atStart => exact ⟨0, _, _, Nat.zero_le _, rfl, rfl, BJ5.out⟩
                    case round =>
                      obtain ⟨k, s, bad, hk, hg3, rfl, hbj⟩ := hrel
                      have HG3 := Lib.hid hg3; have HJ := Lib.hid hbj; clear hg3 hbj BJ5
                      by_cases hlt3 : k < D.length
                      · have hact := HJ.out.d.act k hlt3
                        have hxk := HDOK.out (D.getD k noAct) (by simp [hlt3])
                        have hdf := drop_flatB D k hlt3
                        generalize D.getD k noAct = x at hact hxk hdf
                        have c0 := hact.c0; have c1 := hact.c1
                        obtain ⟨R, hR⟩ : ∃ R, (D.drop (k + 1)).flatMap bytesB ++ tailB zs = R := ⟨_, rfl⟩
                        have hrest : (D.drop k).flatMap bytesB ++ tailB zs = bytesB x ++ R := by rw [hdf, List.append_assoc, hR]
                        have bj := HJ.out
                        rw [hrest] at bj
                        have HX := Lib.hid hxk; have HRR := Lib.hid hR; have HBJ := Lib.hid bj; clear hact hxk hdf hR hrest bj
                        by_cases hk1 : x.kind = 1
                        · have hk1' : (x.kind == 1) = true := by simpa using hk1
                          obtain ⟨ok1, ok2⟩ := HX.out.n hk1
                          have hjb := HBJ.out.jb
                          rw [bytesB_1 hk1, List.append_assoc] at hjb
                          have j1 := JB_num ok1 HX.out.ok.n.2 hjb
                          have j2 := JB_num ok2 HX.out.ok.m.2 j1
                          have J1 := Lib.hid j1; have J2 := Lib.hid j2; clear hk1 ok1 ok2 hjb j1 j2
                          go_wp2_with fail
                          refine (inum_any x.wd HBJ.out.inn (by have := HBJ.out.size; unfold maxLen; omega)).mono ?_
                          rintro e w6 ⟨rfl, ht6⟩
                          have bj6 := HBJ.out.took ht6 J1.out (inS_size _ _)
                          have hact6 := bj6.d.act k hlt3
                          have c16 : w6.cell? ⟨gd, k * 5 + 1, none⟩ = some (.int .i64 x.wd) := by
                            rw [← c1]; exact World.cell?_of_block (a := ⟨gd, k * 5 + 1, none⟩) (ht6.2.block gd HBJ.out.d.lt.2 (fun e => by subst e; exact own_ne HBJ.out.d HBJ.out.inn (by decide) rfl))
                          have BJ6 := Lib.hid bj6; clear bj6 ht6 hact6
                          go_wp2_with fail
                          refine (inum_any x.wd BJ6.out.inn (by have := BJ6.out.size; unfold maxLen; omega)).mono ?_
                          rintro e w7 ⟨rfl, ht7⟩
                          have bj7 := BJ6.out.took ht7 J2.out (inS_size _ _)
                          have BJ7 := Lib.hid bj7; clear bj7 ht7
                          go_wp2_with fail
                          go_roundg (D.length - (k + 1))
                          case measure => have := HG3.out; omega
                          case rel => exact ⟨k + 1, _, _, by omega, rfl, by go_num, by rw [HRR.out]; exact BJ7.out⟩
                        · have hk1' : (x.kind == 1) = false := by simpa using hk1
                          have hx1024 := HX.out.s
                          have hjb := HBJ.out.jb
                          rw [bytesB_2 hk1] at hjb
                          have j1 := JB_text (most := 1024) x.s (by omega) (by omega) hjb
                          have J1 := Lib.hid j1; clear hk1 hjb j1
                          go_wp2_with fail
                          refine (itext_any 1024 HBJ.out.inn (by have := HBJ.out.size; omega)).mono ?_
                          rintro e w6 ⟨rfl, ht6⟩
                          have bj6 := HBJ.out.took ht6 J1.out (tS_size _ _)
                          have BJ6 := Lib.hid bj6; clear bj6 ht6
                          go_wp2_with fail
                          go_roundg (D.length - (k + 1))
                          case measure => have := HG3.out; omega
                          case rel => exact ⟨k + 1, _, _, by omega, rfl, by go_num, by rw [HRR.out]; exact BJ6.out⟩
                      · obtain rfl : k = D.length := by omega
                        have bj := HJ.out
                        rw [List.drop_length, List.flatMap_nil, List.nil_append] at bj
                        have HBJ := Lib.hid bj; clear bj
                        obtain ⟨hrt, hbs⟩ := JB_list HALL.out (by omega) HBJ.out.jb
                        have HRT := Lib.hid hrt; have HBS := Lib.hid hbs; clear hrt hbs
                        go_wp2_with fail
                        refine (read_bad 100 HBJ.out.inn (by have := HBJ.out.size; omega) HRT.out HBS.out).mono ?_
                        rintro e w6 ⟨rfl, hin6, hc6⟩
                        have b6 : Below w.heap.size w w6 := HBJ.out.below.trans (hc6.toBelow HBJ.out.below.size (fun k hk e => by have := HBJ.out.le; omega))
                        have IN6 := Lib.hid hin6; have B6 := Lib.hid b6; clear hin6 hc6 b6
                        go_wp2_with fail
                        refine (bad_some IN6.out).mono ?_
                        rintro e w' ⟨rfl, rfl⟩
                        go_wp2_with fail
                        go_ret
                        exact ⟨rfl, B6.out⟩
end Go.Proofs.Ytoijipahcpdhcaa
