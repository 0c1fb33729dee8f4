/- The walk of JointExact: it returns true. -/
import Derived.Test.YtdgafpkigajgeaaJntR
namespace Go.Proofs.Ytdgafpkigajgeaa
open Go.RowKit Go.Lib Plain

/-- the state of the loop: to the Joint at p and to the document's at u came the same bytes -/
structure ESt (w wx : World) (p u : Nat) (l : List UInt8) : Prop where
  jt : JAt wx p l
  rt : RAt wx u l
  chg : Chg w wx (fun i => w.heap.size ≤ i)
  lp : w.heap.size ≤ p
  lu : w.heap.size ≤ u
theorem ESt.old {w wx : World} {p u : Nat} {l : List UInt8} (h : ESt w wx p u l) : Below w.heap.size w wx := h.chg.toBelow (Nat.le_refl _) (fun i hi e => by omega)
theorem ESt.ne {w wx : World} {p u : Nat} {l : List UInt8} (h : ESt w wx p u l) : p ≠ u := At.ne h.jt h.rt (by decide)
/-- both are fed the same -/
theorem ESt.both {w wx w1 w2 : World} {p u : Nat} {l m : List UInt8} (h : ESt w wx p u l) (hj : JAt w1 p m) (hc : Chg wx w1 (fun i => i = p)) (hr : RAt w2 u m) (hc2 : Chg w1 w2 (fun i => i = u)) : ESt w w2 p u m :=
  ⟨At.chg hj hc2 h.ne, hr, (h.chg.trans hc (fun i _ e => by have := h.lp; omega)).trans hc2 (fun i _ e => by have := h.lu; omega), h.lp, h.lu⟩
theorem ESt.mid {w wx w1 : World} {p u : Nat} {l : List UInt8} (h : ESt w wx p u l) (hc : Chg wx w1 (fun i => i = p)) : RAt w1 u l := At.chg h.rt hc h.ne.symm
theorem ESt.midOld {w wx w1 : World} {p u : Nat} {l : List UInt8} (h : ESt w wx p u l) (hc : Chg wx w1 (fun i => i = p)) : Below w.heap.size w w1 := by
  have := h.chg.trans hc (fun i _ e => by have := h.lp; omega)
  exact this.toBelow (Nat.le_refl _) (fun i hi e => by omega)
theorem ESt.below {w wx w1 : World} {p u : Nat} {l : List UInt8} (h : ESt w wx p u l) (hb : Below wx.heap.size wx w1) : ESt w w1 p u l :=
  ⟨At.below h.jt hb h.jt.lt, At.below h.rt hb h.rt.lt, h.chg.trans (Chg.ofBelow hb (fun _ => False)) (fun _ _ e => e.elim), h.lp, h.lu⟩
/-- behind a reset -/
theorem ESt.reset {w wx w1 : World} {p u : Nat} {l : List UInt8} (h : ESt w wx p u l) (hj : JAt w1 p []) (hc : Chg wx w1 (fun i => i = p)) : ESt w (w1.alloc (.cells #[.string ⟨#[]⟩, .int .i64 0] 29)) p w1.heap.size [] :=
  ⟨At.alloc hj _, new_rat w1, (h.chg.trans hc (fun i _ e => by have := h.lp; omega)).alloc _, h.lp, Nat.le_trans h.chg.size hc.size⟩
theorem news_many (l c : List UInt8) : ((news l c).map textOf).length ≤ l.length + c.length := by
  rw [List.length_map]; unfold news; rw [told_length]
  have h1 := cnt_le (jR l ++ c)
  have h2 := jR_le l
  rw [List.length_append] at h1
  omega
theorem OwnS.rfed {w w' : World} {B u : Nat} {v : Value} {ts : List ByteArray} {l : List UInt8} (h : OwnS w B v ts) (j : RAt w u l) (hc : Chg w w' (fun k => k = u)) : OwnS w' B v ts :=
  own_chg h hc (fun k hk hp => by subst hp; exact own_ne h j (by decide) hk)

set_option maxRecDepth 100000 in
set_option maxHeartbeats 3200000 in
theorem jointExact_walk (A : Option Addr) (cap : Nat) (ss : List ByteArray) (C : Option Addr) (cap2 : Nat) (zs : List Bool) (w : World) (hs : ∀ y ∈ ss, y.size ≤ maxLen) (hA : StrsAt w w.heap.size A ss) (hl : ss.length ≤ maxLen)
    (hC : BoolsAt w w.heap.size C zs) (hl2 : zs.length ≤ maxLen) :
    Calls Try.prog 3 #[.slice A ss.length cap, .slice C zs.length cap2] w fun e w' => e = .returned (.bool true) ∧ Below w.heap.size w w' := by
  unfold maxLen at hl hl2
  have HS := Lib.hid hs; have HA := Lib.hid hA; have HC := Lib.hid hC; clear hs hA hC
  go_enter Try.func3, Try.ntmps3
  go_wp2_with fail
  refine (awake_any _).mono ?_
  rintro e w0 ⟨rfl, hb0⟩
  have HB0 := Lib.hid hb0; clear hb0
  go_wp2_with fail
  refine (jnew_any _).mono ?_
  rintro e w1 ⟨rfl, hj1, hb1⟩
  have hst : ESt w (w1.alloc (.cells #[.string ⟨#[]⟩, .int .i64 0] 29)) w0.heap.size w1.heap.size [] :=
    ⟨At.alloc hj1 _, new_rat w1, ((Chg.ofBelow HB0.out _).trans (Chg.ofBelow hb1 (fun _ => False)) (fun _ _ h => h.elim)).alloc _, HB0.out.size, Nat.le_trans HB0.out.size hb1.size⟩
  have HST := Lib.hid hst; clear hst hj1 hb1 HB0
  generalize w0.heap.size = p at *
  go_wp2_with fail
  generalize w1.heap.size = u0 at *
  go_loopg [6, 7] 30 (fun g s6 s7 wx => ∃ (j u : Nat) (l : List UInt8), j ≤ ss.length ∧ j ≤ 30 ∧ g = 30 - j ∧ s7 = .int .i64 (j : Int) ∧ s6 = .pointer (some ⟨u, 0, none⟩) ∧ l.length ≤ j * 512 ∧ ESt w wx p u l)
  case atStart => exact ⟨0, _, [], Nat.zero_le _, Nat.zero_le _, rfl, rfl, rfl, by simp, HST.out⟩
  case round =>
    obtain ⟨j, u, l, hj, hj30, hg, rfl, rfl, hll, hst⟩ := hrel
    have HG := Lib.hid hg; have KST := Lib.hid hst; clear hg hst HST
    by_cases hlt : j < ss.length ∧ j < 30
    · obtain ⟨hlt, h30⟩ := hlt
      obtain ⟨b1, o1, rfl, hbl, hc1⟩ := (HA.out.keep KST.out.old) j hlt
      have hcell : ∀ wx, Below w.heap.size w wx → wx.cell? ⟨b1, o1 + j, none⟩ = some (.string (ss.getD j ByteArray.empty)) := fun wx hb => by
        obtain ⟨b2, o2, e2, _, hc2⟩ := (HA.out.keep hb) j hlt
        injection e2 with e2
        injection e2 with e3 e4
        subst e3 e4
        exact hc2
      generalize ss.getD j ByteArray.empty = t at hc1 hcell
      have CELL := Lib.hid hcell; clear hcell
      have b3 : (j : Int) < (ss.length : Int) := by omega
      have b4 : (0 : Int) ≤ (j : Int) := by omega
      have b5 : (j : Int) < 30 := by omega
      by_cases h512 : 512 < t.size
      · go_wp2_with fail
        go_ret
        exact ⟨rfl, KST.out.old⟩
      · have hcase : (j < zs.length ∧ zs.getD j false = true) ∨ (j < zs.length ∧ zs.getD j false = false) ∨ ¬ j < zs.length := by
          by_cases h1 : j < zs.length
          · cases h2 : zs.getD j false
            · exact .inr (.inl ⟨h1, rfl⟩)
            · exact .inl ⟨h1, rfl⟩
          · exact .inr (.inr h1)
        rcases hcase with ⟨hr, hv⟩ | ⟨hr, hv⟩ | hr
        · obtain ⟨b2, o2, rfl, _, hc2⟩ := (HC.out.keep KST.out.old) j hr
          rw [hv] at hc2
          have b6 : (j : Int) < (zs.length : Int) := by omega
          go_wp2_with fail
          refine (jreset_some KST.out.jt).mono ?_
          rintro e w2 ⟨rfl, hj2, hcg2⟩
          have ks := KST.out.reset hj2 hcg2
          have hc1 := CELL.out _ ks.old
          obtain ⟨lf, hlf, ks⟩ : ∃ lf : List UInt8, lf.length ≤ j * 512 ∧ ESt w (w2.alloc (.cells #[.string ⟨#[]⟩, .int .i64 0] 29)) p w2.heap.size lf := ⟨[], by simp, ks⟩
          have KS := Lib.hid ks; clear ks hj2 hcg2 KST hc2 hv
          go_wp2_with fail
          have cf := jfeed_eff KS.out.jt t (by omega)
          have cr : ∀ wx uu, RAt wx uu lf → Calls Try.prog 11 #[.pointer (some ⟨uu, 0, none⟩), .string t] wx (fun e w' => ∃ v, e = .returned (.tuple #[v, .bool (!jB (eff lf t.data.toList))]) ∧ OwnS w' wx.heap.size v ((news lf t.data.toList).map textOf) ∧ RAt w' uu (eff lf t.data.toList) ∧ Chg wx w' (fun k => k = uu)) := fun wx uu h => rfeed_any h t (by omega)
          have hnm := news_many lf t.data.toList
          have hel := eff_length lf t.data.toList
          rw [size_list] at hnm hel
          generalize (news lf t.data.toList).map textOf = ns at cf cr hnm
          generalize eff lf t.data.toList = m at cf cr hel
          have CF := Lib.hid cf; have CR := Lib.hid cr; clear cf cr
          refine CF.out.mono ?_
          rintro e w5 ⟨v5, rfl, ho5, hj5, hc5⟩
          have hc1 := CELL.out _ (KS.out.midOld hc5)
          have hr5 := KS.out.mid hc5
          have HO5 := Lib.hid ho5; have HJ5 := Lib.hid hj5; have HC5 := Lib.hid hc5; have HR5 := Lib.hid hr5; clear ho5 hj5 hc5 hr5 CF
          go_wp2_with fail
          refine (CR.out _ _ HR5.out).mono ?_
          rintro e w6 ⟨v6, rfl, ho6, hr6, hc6⟩
          have ks6 := KS.out.both HJ5.out HC5.out hr6 hc6
          have ho56 := HO5.out.rfed HR5.out hc6
          have KS6 := Lib.hid ks6; have HO56 := Lib.hid ho56; have HO6 := Lib.hid ho6; clear ks6 ho56 ho6 hr6 hc6 CR HO5 HJ5 HC5 HR5 KS
          go_wp2_with fail
          refine (rstate_any _ KS6.out.rt (by omega)).mono ?_
          rintro e w7 ⟨g7, cap7, rfl, _, _, hb7⟩
          have cs := same_any (HO56.out.below hb7).sl (HO6.out.below hb7).sl (by omega)
          have KS7 := Lib.hid (KS6.out.below hb7); have CS := Lib.hid cs; clear cs hb7 HO56 HO6 KS6
          go_wp2_with fail
          refine CS.out.mono ?_
          rintro e w8 ⟨rfl, hb8⟩
          have ks8 := KS7.out.below hb8
          have cl8 := jleft_some ks8.jt
          have cb8 := jbad_some ks8.jt
          have cs8 := jseen_some ks8.jt
          have hjw := jW_length m
          have KS8 := Lib.hid ks8; clear ks8 hb8 KS7 CS
          generalize (jW m).length = n1 at *
          generalize cnt m = n2 at *
          generalize jB m = q1 at *
          have CL8 := Lib.hid cl8; have CB8 := Lib.hid cb8; have CS8 := Lib.hid cs8; clear cl8 cb8 cs8
          go_wp2_with (first | (go_at_call 14; refine CL8.out.mono ?_; rintro e w9 ⟨rfl, rfl⟩) | (go_at_call 15; refine CB8.out.mono ?_; rintro e w9 ⟨rfl, rfl⟩) | (go_at_call 16; refine CS8.out.mono ?_; rintro e w9 ⟨rfl, rfl⟩))
          go_roundg (30 - (j + 1))
          case measure => have := HG.out; omega
          case rel => exact ⟨j + 1, _, m, by omega, by omega, rfl, by go_num, rfl, by omega, KS8.out⟩
        · obtain ⟨b2, o2, rfl, _, hc2⟩ := (HC.out.keep KST.out.old) j hr
          rw [hv] at hc2
          have b6 : (j : Int) < (zs.length : Int) := by omega
          obtain ⟨lf, hlf, ks⟩ : ∃ lf : List UInt8, lf.length ≤ j * 512 ∧ ESt w wr p u lf := ⟨l, hll, KST.out⟩
          have KS := Lib.hid ks; clear ks KST hv
          go_wp2_with fail
          clear hc2
          have cf := jfeed_eff KS.out.jt t (by omega)
          have cr : ∀ wx uu, RAt wx uu lf → Calls Try.prog 11 #[.pointer (some ⟨uu, 0, none⟩), .string t] wx (fun e w' => ∃ v, e = .returned (.tuple #[v, .bool (!jB (eff lf t.data.toList))]) ∧ OwnS w' wx.heap.size v ((news lf t.data.toList).map textOf) ∧ RAt w' uu (eff lf t.data.toList) ∧ Chg wx w' (fun k => k = uu)) := fun wx uu h => rfeed_any h t (by omega)
          have hnm := news_many lf t.data.toList
          have hel := eff_length lf t.data.toList
          rw [size_list] at hnm hel
          generalize (news lf t.data.toList).map textOf = ns at cf cr hnm
          generalize eff lf t.data.toList = m at cf cr hel
          have CF := Lib.hid cf; have CR := Lib.hid cr; clear cf cr
          refine CF.out.mono ?_
          rintro e w5 ⟨v5, rfl, ho5, hj5, hc5⟩
          have hc1 := CELL.out _ (KS.out.midOld hc5)
          have hr5 := KS.out.mid hc5
          have HO5 := Lib.hid ho5; have HJ5 := Lib.hid hj5; have HC5 := Lib.hid hc5; have HR5 := Lib.hid hr5; clear ho5 hj5 hc5 hr5 CF
          go_wp2_with fail
          refine (CR.out _ _ HR5.out).mono ?_
          rintro e w6 ⟨v6, rfl, ho6, hr6, hc6⟩
          have ks6 := KS.out.both HJ5.out HC5.out hr6 hc6
          have ho56 := HO5.out.rfed HR5.out hc6
          have KS6 := Lib.hid ks6; have HO56 := Lib.hid ho56; have HO6 := Lib.hid ho6; clear ks6 ho56 ho6 hr6 hc6 CR HO5 HJ5 HC5 HR5 KS
          go_wp2_with fail
          refine (rstate_any _ KS6.out.rt (by omega)).mono ?_
          rintro e w7 ⟨g7, cap7, rfl, _, _, hb7⟩
          have cs := same_any (HO56.out.below hb7).sl (HO6.out.below hb7).sl (by omega)
          have KS7 := Lib.hid (KS6.out.below hb7); have CS := Lib.hid cs; clear cs hb7 HO56 HO6 KS6
          go_wp2_with fail
          refine CS.out.mono ?_
          rintro e w8 ⟨rfl, hb8⟩
          have ks8 := KS7.out.below hb8
          have cl8 := jleft_some ks8.jt
          have cb8 := jbad_some ks8.jt
          have cs8 := jseen_some ks8.jt
          have hjw := jW_length m
          have KS8 := Lib.hid ks8; clear ks8 hb8 KS7 CS
          generalize (jW m).length = n1 at *
          generalize cnt m = n2 at *
          generalize jB m = q1 at *
          have CL8 := Lib.hid cl8; have CB8 := Lib.hid cb8; have CS8 := Lib.hid cs8; clear cl8 cb8 cs8
          go_wp2_with (first | (go_at_call 14; refine CL8.out.mono ?_; rintro e w9 ⟨rfl, rfl⟩) | (go_at_call 15; refine CB8.out.mono ?_; rintro e w9 ⟨rfl, rfl⟩) | (go_at_call 16; refine CS8.out.mono ?_; rintro e w9 ⟨rfl, rfl⟩))
          go_roundg (30 - (j + 1))
          case measure => have := HG.out; omega
          case rel => exact ⟨j + 1, _, m, by omega, by omega, rfl, by go_num, rfl, by omega, KS8.out⟩
        · have b6 : ¬ (j : Int) < (zs.length : Int) := by omega
          obtain ⟨lf, hlf, ks⟩ : ∃ lf : List UInt8, lf.length ≤ j * 512 ∧ ESt w wr p u lf := ⟨l, hll, KST.out⟩
          have KS := Lib.hid ks; clear ks KST
          go_wp2_with fail
          have cf := jfeed_eff KS.out.jt t (by omega)
          have cr : ∀ wx uu, RAt wx uu lf → Calls Try.prog 11 #[.pointer (some ⟨uu, 0, none⟩), .string t] wx (fun e w' => ∃ v, e = .returned (.tuple #[v, .bool (!jB (eff lf t.data.toList))]) ∧ OwnS w' wx.heap.size v ((news lf t.data.toList).map textOf) ∧ RAt w' uu (eff lf t.data.toList) ∧ Chg wx w' (fun k => k = uu)) := fun wx uu h => rfeed_any h t (by omega)
          have hnm := news_many lf t.data.toList
          have hel := eff_length lf t.data.toList
          rw [size_list] at hnm hel
          generalize (news lf t.data.toList).map textOf = ns at cf cr hnm
          generalize eff lf t.data.toList = m at cf cr hel
          have CF := Lib.hid cf; have CR := Lib.hid cr; clear cf cr
          refine CF.out.mono ?_
          rintro e w5 ⟨v5, rfl, ho5, hj5, hc5⟩
          have hc1 := CELL.out _ (KS.out.midOld hc5)
          have hr5 := KS.out.mid hc5
          have HO5 := Lib.hid ho5; have HJ5 := Lib.hid hj5; have HC5 := Lib.hid hc5; have HR5 := Lib.hid hr5; clear ho5 hj5 hc5 hr5 CF
          go_wp2_with fail
          refine (CR.out _ _ HR5.out).mono ?_
          rintro e w6 ⟨v6, rfl, ho6, hr6, hc6⟩
          have ks6 := KS.out.both HJ5.out HC5.out hr6 hc6
          have ho56 := HO5.out.rfed HR5.out hc6
          have KS6 := Lib.hid ks6; have HO56 := Lib.hid ho56; have HO6 := Lib.hid ho6; clear ks6 ho56 ho6 hr6 hc6 CR HO5 HJ5 HC5 HR5 KS
          go_wp2_with fail
          refine (rstate_any _ KS6.out.rt (by omega)).mono ?_
          rintro e w7 ⟨g7, cap7, rfl, _, _, hb7⟩
          have cs := same_any (HO56.out.below hb7).sl (HO6.out.below hb7).sl (by omega)
          have KS7 := Lib.hid (KS6.out.below hb7); have CS := Lib.hid cs; clear cs hb7 HO56 HO6 KS6
          go_wp2_with fail
          refine CS.out.mono ?_
          rintro e w8 ⟨rfl, hb8⟩
          have ks8 := KS7.out.below hb8
          have cl8 := jleft_some ks8.jt
          have cb8 := jbad_some ks8.jt
          have cs8 := jseen_some ks8.jt
          have hjw := jW_length m
          have KS8 := Lib.hid ks8; clear ks8 hb8 KS7 CS
          generalize (jW m).length = n1 at *
          generalize cnt m = n2 at *
          generalize jB m = q1 at *
          have CL8 := Lib.hid cl8; have CB8 := Lib.hid cb8; have CS8 := Lib.hid cs8; clear cl8 cb8 cs8
          go_wp2_with (first | (go_at_call 14; refine CL8.out.mono ?_; rintro e w9 ⟨rfl, rfl⟩) | (go_at_call 15; refine CB8.out.mono ?_; rintro e w9 ⟨rfl, rfl⟩) | (go_at_call 16; refine CS8.out.mono ?_; rintro e w9 ⟨rfl, rfl⟩))
          go_roundg (30 - (j + 1))
          case measure => have := HG.out; omega
          case rel => exact ⟨j + 1, _, m, by omega, by omega, rfl, by go_num, rfl, by omega, KS8.out⟩
    · have hq : ¬ (j : Int) < (ss.length : Int) ∨ ((j : Int) < (ss.length : Int) ∧ ¬ (j : Int) < 30) := by omega
      have OLD := Lib.hid KST.out.old; clear KST
      rcases hq with hq | ⟨hq, hq2⟩
      all_goals
        go_wp2_with (first | (go_at_call 9; refine (jreset_nil _).mono ?_; rintro e w9 ⟨rfl, rfl⟩) | (go_at_call 10; refine (jfeed_nil _ _).mono ?_; rintro e w9 ⟨rfl, rfl⟩) | (go_at_call 14; refine (jleft_nil _).mono ?_; rintro e w9 ⟨rfl, rfl⟩) | (go_at_call 15; refine (jbad_nil _).mono ?_; rintro e w9 ⟨rfl, rfl⟩) | (go_at_call 16; refine (jseen_nil _).mono ?_; rintro e w9 ⟨rfl, rfl⟩))
        go_ret
        exact ⟨rfl, OLD.out⟩
end Go.Proofs.Ytdgafpkigajgeaa
