/- The walk of JointBytes: it returns true. -/
import Derived.Test.YtdgafpkigajgeaaJntE
import Derived.Test.YtdgafpkigajgeaaJntArgs
import Derived.BigQuiet
namespace Go.Proofs.Ytdgafpkigajgeaa
open Go.RowKit Go.Lib Plain

namespace Plain
theorem jR_front {F t : List UInt8} (hF : jR F = []) (h : nSt t ≠ 1) : cnt (F ++ t) = cnt F ∧ jR (F ++ t) = t := by
  have e : jR F ++ t = t := by rw [hF]; rfl
  exact ⟨by rw [cnt_app, e, cnt_none h]; rfl, by rw [jR_app, e, jR_none h]⟩
theorem ok_one {b : List UInt8} (h : okB b = true) : allOk [b] = true := by simp [allOk, h]
theorem frms_one (b : List UInt8) : frms [b] ++ [] = frm b := by simp [frms]
theorem cnt_one {b : List UInt8} (h : okB b = true) : cnt (frm b) = 1 := by
  have := cuts_frms [b] [] (ok_one h) (by decide)
  rw [frms_one] at this
  exact cnt_of this
theorem told_one {b : List UInt8} (h : okB b = true) : told (frm b) = [b] := by
  have := bods_frms [b] [] (ok_one h)
  rw [frms_one] at this
  unfold told; rw [cnt_one h]; exact this
theorem jR_one {b : List UInt8} (h : okB b = true) : jR (frm b) = [] := by
  have := end_frms [b] [] (ok_one h)
  rw [frms_one] at this
  unfold jR; rw [cnt_one h]; exact this
theorem jR_done (F b : List UInt8) (hF : jR F = []) : jR (F ++ ofT b) = [] := by
  have e : jR F ++ ofT b = ofT b := by rw [hF]; rfl
  rw [jR_app, e]
  cases h : okB b
  · rw [ofT_no h]; rfl
  · rw [ofT_yes h]; exact jR_one h
theorem jB_done {F : List UInt8} (hF : jR F = []) : jB F = false := by unfold jB; rw [hF]; rfl
theorem byte_step (F b : List UInt8) (k : Nat) (hF : jR F = []) (h : okB b = true) (hk : k < (frm b).length) :
    F ++ (frm b).take k ++ ((frm b).drop k).take 1 = F ++ (frm b).take (k + 1) ∧ jB (F ++ (frm b).take (k + 1)) = false ∧
    ((k + 1 < (frm b).length ∧ news (F ++ (frm b).take k) (((frm b).drop k).take 1) = [] ∧ cnt (F ++ (frm b).take (k + 1)) = cnt (F ++ (frm b).take k)) ∨
     (k + 1 = (frm b).length ∧ news (F ++ (frm b).take k) (((frm b).drop k).take 1) = [b] ∧ cnt (F ++ (frm b).take (k + 1)) = cnt (F ++ (frm b).take k) + 1)) := by
  have e1 : (frm b).take (k + 1) = (frm b).take k ++ ((frm b).drop k).take 1 := List.take_add
  have h2 := frm_front b k h hk
  obtain ⟨c1, r1⟩ := jR_front hF (show nSt ((frm b).take k) ≠ 1 by omega)
  have n1 : news (F ++ (frm b).take k) (((frm b).drop k).take 1) = told ((frm b).take (k + 1)) := by unfold news; rw [r1, e1]
  have e2 : F ++ (frm b).take k ++ ((frm b).drop k).take 1 = F ++ (frm b).take (k + 1) := by rw [e1, List.append_assoc]
  refine ⟨e2, ?_, ?_⟩
  · rcases Nat.lt_or_ge (k + 1) (frm b).length with hl | hl
    · have h3 := frm_front b (k + 1) h hl
      have := (jR_front hF (show nSt ((frm b).take (k + 1)) ≠ 1 by omega)).2
      unfold jB; rw [this, h3]; rfl
    · rw [List.take_of_length_le hl, ← ofT_yes h]
      exact jB_done (jR_done F b hF)
  · rcases Nat.lt_or_ge (k + 1) (frm b).length with hl | hl
    · have h3 := frm_front b (k + 1) h hl
      have h4 : nSt ((frm b).take (k + 1)) ≠ 1 := by omega
      exact .inl ⟨hl, by rw [n1, told_none h4], by rw [(jR_front hF h4).1, c1]⟩
    · have hf : (frm b).take (k + 1) = frm b := List.take_of_length_le hl
      have e : jR F ++ frm b = frm b := by rw [hF]; rfl
      exact .inr ⟨by omega, by rw [n1, hf, told_one h], by rw [hf, c1, cnt_app, e, cnt_one h]⟩
theorem bad00 (m : List UInt8) : nSt (0 :: 0 :: m) = 3 := nSt_len (by simp) (.inl (by unfold lenOf; simp [dec]))
theorem bad_behind {F : List UInt8} (hF : jR F = []) (m : List UInt8) : news F (0 :: 0 :: m) = [] ∧ jB (F ++ 0 :: 0 :: m) = true ∧ cnt (F ++ 0 :: 0 :: m) = cnt F := by
  have h1 : nSt (0 :: 0 :: m) ≠ 1 := by rw [bad00]; decide
  have h2 := jR_front hF h1
  refine ⟨?_, ?_, h2.1⟩
  · unfold news; rw [hF]; exact told_none h1
  · rw [jB_iff, h2.2]; exact bad00 m
theorem ofT_length (l : List UInt8) : (ofT l).length ≤ 2054 := by
  by_cases h : okB l = true
  · rw [ofT_yes h, frm_length]; have := (okB_iff l).1 h; omega
  · rw [ofT_no (by simpa using h)]; simp
end Plain
theorem mid_text (r : List UInt8) (k : Nat) : (textOf r).extract k (k + 1) = textOf ((r.drop k).take 1) := by
  apply ByteArray.ext; apply Array.ext'
  rw [ByteArray.data_extract, Array.toList_extract, List.extract_eq_take_drop, textOf_data, textOf_data, show k + 1 - k = 1 by omega]
/-- the state of the loops: to the Joint at p came these bytes -/
structure BSt (w wx : World) (p : Nat) (l : List UInt8) : Prop where
  jt : JAt wx p l
  chg : Chg w wx (fun i => w.heap.size ≤ i)
theorem BSt.below {w wx w1 : World} {p : Nat} {l : List UInt8} (h : BSt w wx p l) (hb : Below wx.heap.size wx w1) : BSt w w1 p l :=
  ⟨At.below h.jt hb h.jt.lt, h.chg.trans (Chg.ofBelow hb (fun _ => False)) (fun _ _ e => e.elim)⟩
theorem BSt.fed {w wx w1 : World} {p : Nat} {l m : List UInt8} (h : BSt w wx p l) (hj : JAt w1 p m) (hc : Chg wx w1 (fun i => i = p)) (hp : w.heap.size ≤ p) : BSt w w1 p m :=
  ⟨hj, h.chg.trans hc (fun i _ e => by omega)⟩
theorem BSt.old {w wx : World} {p : Nat} {l : List UInt8} (h : BSt w wx p l) : Below w.heap.size w wx := h.chg.toBelow (Nat.le_refl _) (fun i hi e => by omega)

set_option maxRecDepth 100000 in
set_option maxHeartbeats 16000000 in
theorem jointBytes_walk (A : Option Addr) (cap : Nat) (ss : List ByteArray) (bad : ByteArray) (w : World) (hs : ∀ y ∈ ss, y.size ≤ maxLen) (hA : StrsAt w w.heap.size A ss) (hl : ss.length ≤ maxLen) (hz : bad.size ≤ maxLen) :
    Calls Try.prog 5 #[.slice A ss.length cap, .string bad] w fun e w' => e = .returned (.bool true) ∧ Below w.heap.size w w' := by
  unfold maxLen at hl hz
  by_cases g1 : 8 < ss.length
  · clear hs hA
    go_enter Try.func5, Try.ntmps5
    go_wp2_with (go_at_call 7; refine (awake_any _).mono ?_; rintro e w' ⟨rfl, hg⟩)
    go_ret
    exact ⟨rfl, hg⟩
  by_cases g2 : 300 < bad.size
  · clear hs hA
    go_enter Try.func5, Try.ntmps5
    go_wp2_with (go_at_call 7; refine (awake_any _).mono ?_; rintro e w' ⟨rfl, hg⟩)
    go_ret
    exact ⟨rfl, hg⟩
  have HS := Lib.hid hs; have HA := Lib.hid hA; clear hs hA hl hz
  go_enter Try.func5, Try.ntmps5
  go_wp2_with fail
  refine (awake_any _).mono ?_
  rintro e w0 ⟨rfl, hb0⟩
  have HB0 := Lib.hid hb0; clear hb0
  go_wp2_with fail
  refine (jnew_any _).mono ?_
  rintro e w1 ⟨rfl, hj1, hb1⟩
  have hc1 : Chg w w1 (fun k => w.heap.size ≤ k) := (Chg.ofBelow HB0.out _).trans (Chg.ofBelow hb1 (fun _ => False)) (fun _ _ h => h.elim)
  have hp0 := HB0.out.size
  generalize w0.heap.size = p at *
  have hst : BSt w w1 p [] := ⟨hj1, hc1⟩
  have HST := Lib.hid hst; clear hj1 hc1 hb1 HB0 hst
  go_wp2_with fail
  go_loopg [6, 7] ss.length (fun g s6 s7 wx => ∃ (j : Nat) (F : List UInt8), j ≤ ss.length ∧ g = ss.length - j ∧ s7 = .int .i64 (j : Int) ∧ s6 = .int .i64 (cnt F : Int) ∧ jR F = [] ∧ F.length ≤ j * 2054 ∧ BSt w wx p F)
  case atStart => exact ⟨0, [], Nat.zero_le _, rfl, rfl, rfl, rfl, by simp, HST.out⟩
  case round =>
    obtain ⟨j, F, hj, hg, rfl, rfl, hF, hFl, hst⟩ := hrel
    have HG := Lib.hid hg; have KST := Lib.hid hst; have HF := Lib.hid hF; clear hg hst HST hF
    by_cases hlt : j < ss.length
    · obtain ⟨b1, o1, rfl, hbl, hc1⟩ := (HA.out.keep KST.out.old) j hlt
      have hsz : (ss.getD j ByteArray.empty).size ≤ maxLen := HS.out _ (by simp [hlt])
      generalize htt : ss.getD j ByteArray.empty = t at hc1 hsz
      have HTT := Lib.hid htt; clear htt
      have co := fof_any t wr hsz
      have hfl := ofT_length t.data.toList
      have hzt := textOf_size (ofT t.data.toList)
      have b3 : (j : Int) < (ss.length : Int) := by omega
      have b4 : (0 : Int) ≤ (j : Int) := by omega
      generalize hft : ofT t.data.toList = f at co hfl hzt
      generalize ofE t.data.toList = ef at co
      generalize htx : textOf f = t8 at co hzt
      have HFT := Lib.hid hft; have HTX := Lib.hid htx; clear hft htx
      have CO := Lib.hid co; clear co hsz
      go_wp2_with fail
      refine CO.out.mono ?_
      rintro e w4 ⟨rfl, hb4⟩
      have KST4 := Lib.hid (KST.out.below hb4); clear hb4 KST CO
      go_wp2_with fail
      clear hc1
      go_loopg [6, 10] f.length (fun g s6 s10 wx => ∃ (k : Nat), k ≤ f.length ∧ g = f.length - k ∧ s10 = .int .i64 (k : Int) ∧ s6 = .int .i64 (cnt (F ++ f.take k) : Int) ∧ BSt w wx p (F ++ f.take k))
      case atStart => exact ⟨0, Nat.zero_le _, rfl, rfl, by rw [List.take_zero, List.append_nil], by rw [List.take_zero, List.append_nil]; exact KST4.out⟩
      case round =>
        obtain ⟨k, hk, hg, rfl, rfl, hst⟩ := hrel
        have HG2 := Lib.hid hg; have KST := Lib.hid hst; clear hg hst KST4
        by_cases hlk : k < f.length
        · have hok : okB t.data.toList = true := by
            cases h : okB t.data.toList
            · rw [← HFT.out, ofT_no h] at hlk; simp at hlk
            · rfl
          have hf : f = frm t.data.toList := by rw [← HFT.out, ofT_yes hok]
          have hbs := byte_step F t.data.toList k HF.out hok (by rw [← hf]; exact hlk)
          rw [← hf] at hbs
          obtain ⟨x1, x2, x3⟩ := hbs
          have hx := mid_text f k
          rw [HTX.out] at hx
          have hcn := cnt_le (F ++ f.take k)
          have hln : (F ++ f.take k).length ≤ 20000 := by rw [List.length_append, List.length_take]; omega
          have cf : Calls Try.prog 10 #[.pointer (some ⟨p, 0, none⟩), .string (textOf ((f.drop k).take 1))] wr (FedTo wr p (F ++ f.take k) ((f.drop k).take 1)) := by
            have := jfeed_any KST.out.jt (textOf ((f.drop k).take 1)) (by rw [textOf_size, List.length_take]; omega)
            rw [textOf_data] at this
            exact this
          unfold FedTo at cf
          rw [x1, x2] at cf
          have hbz : b1 < wr.heap.size := Nat.lt_of_lt_of_le hbl KST.out.chg.size
          have hcell : wr.cell? ⟨b1, o1 + j, none⟩ = some (.string t) := by
            obtain ⟨b2, o2, e2, _, hc2⟩ := (HA.out.keep KST.out.old) j hlt
            injection e2 with e2
            injection e2 with e3 e4
            subst e3 e4
            rw [HTT.out] at hc2
            exact hc2
          have hcell : ∀ w5, Chg wr w5 (fun i => i = p) → w5.cell? ⟨b1, o1 + j, none⟩ = some (.string t) := fun w5 hc => by
            have hb : Below w.heap.size wr w5 := hc.toBelow KST.out.chg.size (fun i hi e => by omega)
            rw [hb.cell (by exact hbl)]; exact hcell
          have CELL := Lib.hid hcell; clear hcell
          have e0 : IntKind.i64.wrap ((f.length : Int) - 1) = (f.length : Int) - 1 := IntWalk.i64_in _ (by omega)
          generalize textOf ((f.drop k).take 1) = tK at hx cf
          have CF := Lib.hid cf; clear cf x1 x2 hf hok hFl hbz
          have hkk : k + 1 ≤ f.length := by omega
          rcases x3 with ⟨y1, y2, y3⟩ | ⟨y1, y2, y3⟩
          · rw [y2] at CF
            have HY3 := Lib.hid y3; clear y2 y3
            have d1 : ((k : Int) == (f.length : Int) - 1) = false := by rw [beq_eq_false_iff_ne]; omega
            have d2 : ¬ (k : Int) = (f.length : Int) - 1 := by omega
            go_wp2_with fail
            refine CF.out.mono ?_
            rintro e w5 ⟨v, rfl, ho, hj5, hc5⟩
            have hc1 := CELL.out w5 hc5
            obtain ⟨O, cap5, rfl⟩ := ho.none
            have KST5 := Lib.hid (KST.out.fed hj5 hc5 hp0)
            clear ho hj5 hc5 KST CF CELL
            go_wp2_with fail
            go_quiet (fail)
            go_wp2_with fail
            go_roundg (f.length - (k + 1))
            case measure => have := HG2.out; omega
            case rel => exact ⟨k + 1, by omega, rfl, by go_num, by rw [HY3.out], KST5.out.below (below_drewN _ _)⟩
          · rw [y2] at CF
            have HY3 := Lib.hid y3; have HY1 := Lib.hid y1; clear y2 y3 y1
            go_wp2_with fail
            refine CF.out.mono ?_
            rintro e w5 ⟨v, rfl, ho, hj5, hc5⟩
            have hc1 := CELL.out w5 hc5
            have ho : OwnS w5 wr.heap.size v [t] := by
              rw [List.map_cons, List.map_nil, textOf_of] at ho; exact ho
            obtain ⟨g5, cap5, rfl⟩ : ∃ g cap, v = .slice (some ⟨g, 0, none⟩) 1 cap := ho.form (Nat.zero_lt_one)
            have hc2 : w5.cell? ⟨g5, 0, none⟩ = some (.string t) := by
              have := World.ownsRow.cells ho (g := g5) rfl 0 (.string t) rfl
              rw [add_at] at this
              exact this
            have KST5 := Lib.hid (KST.out.fed hj5 hc5 hp0)
            clear ho hj5 hc5 KST CF CELL
            have d1 : ((k : Int) == (f.length : Int) - 1) = true := by have := HY1.out; rw [beq_iff_eq]; omega
            go_wp2_with fail
            go_quiet (fail)
            go_wp2_with fail
            go_roundg (f.length - (k + 1))
            case measure => have := HG2.out; omega
            case rel => exact ⟨k + 1, by omega, rfl, by go_num, by rw [HY3.out]; go_num, KST5.out.below (below_drewN _ _)⟩
        · obtain rfl : k = f.length := by omega
          rw [List.take_length] at KST ⊢
          go_wp2_with fail
          go_roundg (ss.length - (j + 1))
          case measure => have := HG.out; omega
          case rel => exact ⟨j + 1, F ++ f, by omega, rfl, by go_num, rfl, by rw [← HFT.out]; exact jR_done F _ HF.out, by rw [List.length_append]; omega, KST.out⟩
    · obtain ⟨r1, r2, r3⟩ := bad_behind HF.out bad.data.toList
      have e1 : (⟨#[0, 0]⟩ : ByteArray) ++ bad = textOf (0 :: 0 :: bad.data.toList) := by
        rw [show (⟨#[0, 0]⟩ : ByteArray) = textOf [0, 0] from rfl]
        conv => lhs; rw [← textOf_of bad]
        rw [textOf_append]; rfl
      have hcn := cnt_le F
      have cs := jseen_some KST.out.jt
      have cf : Calls Try.prog 10 #[.pointer (some ⟨p, 0, none⟩), .string (textOf (0 :: 0 :: bad.data.toList))] wr (FedTo wr p F (0 :: 0 :: bad.data.toList)) := by
        have := jfeed_any KST.out.jt (textOf (0 :: 0 :: bad.data.toList)) (by rw [textOf_size, List.length_cons, List.length_cons, size_list]; omega)
        rw [textOf_data] at this
        exact this
      unfold FedTo at cf
      rw [r1, r2] at cf
      have hr4 := bad_stays bad.data.toList r2
      have hzb : (F ++ 0 :: 0 :: bad.data.toList).length ≤ 30000 := by rw [List.length_append, List.length_cons, List.length_cons, size_list]; omega
      generalize textOf (0 :: 0 :: bad.data.toList) = tB at e1 cf
      generalize F ++ 0 :: 0 :: bad.data.toList = G at r2 r3 cf hr4 hzb
      rw [r3] at hr4
      have CF := Lib.hid cf; have CS := Lib.hid cs; have HR4 := Lib.hid hr4; have HR2 := Lib.hid r2; clear cf cs hr4 r1 r2 r3
      have hcf : cnt F ≤ 20000 := by omega
      generalize cnt F = n at *
      go_wp2_with fail
      refine CS.out.mono ?_
      rintro e w5 ⟨rfl, rfl⟩
      go_wp2_with fail
      refine CF.out.mono ?_
      rintro e w5 ⟨v, rfl, ho, hj5, hc5⟩
      obtain ⟨O5, cap5, rfl⟩ := ho.none
      have cf := jfeed_any hj5 bad (by omega)
      unfold FedTo at cf
      rw [HR4.out.1, HR4.out.2.2.1] at cf
      have KST5 := Lib.hid (KST.out.fed hj5 hc5 hp0); have CF2 := Lib.hid cf
      clear ho hj5 hc5 KST CF cf CS
      go_wp2_with fail
      refine CF2.out.mono ?_
      rintro e w6 ⟨v, rfl, ho, hj6, hc6⟩
      obtain ⟨O6, cap6, rfl⟩ := ho.none
      have cs := jseen_some hj6
      rw [HR4.out.2.1] at cs
      have KST6 := Lib.hid (KST5.out.fed hj6 hc6 hp0); have CS := Lib.hid cs
      clear ho hj6 hc6 KST5 cs CF2
      go_wp2_with (go_at_call 16; refine CS.out.mono ?_; rintro e w7 ⟨rfl, rfl⟩)
      go_ret
      exact ⟨rfl, KST6.out.old⟩
end Go.Proofs.Ytdgafpkigajgeaa
