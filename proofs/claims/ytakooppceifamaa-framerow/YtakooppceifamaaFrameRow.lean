/- The walk of FrameRow: it returns true. -/
import Derived.Test.YtakooppceifamaaFrmG
import Derived.BigQuiet
namespace Go.Proofs.Ytakooppceifamaa
open Go.RowKit Go.Lib Plain

set_option maxRecDepth 100000 in
set_option maxHeartbeats 1600000 in
theorem row_walk (A : Option Addr) (cap : Nat) (ss : List ByteArray) (h : ByteArray) (w : World) (hs : ∀ y ∈ ss, y.size ≤ maxLen) (ha : StrsAt w w.heap.size A ss) (hl : ss.length ≤ maxLen) (hh : h.size ≤ maxLen) :
    Calls Try.prog 7 #[.slice A ss.length cap, .string h] w fun e w' => e = .returned (.bool true) ∧ Below w.heap.size w w' := by
  unfold maxLen at hl hh
  by_cases g1 : 20 < ss.length
  · clear hs ha
    go_enter Try.func7, Try.ntmps7
    go_wp2_with (go_at_call 9; refine (awake_any _).mono ?_; rintro e w' ⟨rfl, hg⟩)
    go_ret
    exact ⟨rfl, hg⟩
  by_cases g2 : 1024 < h.size
  · clear hs ha
    go_enter Try.func7, Try.ntmps7
    go_wp2_with (go_at_call 9; refine (awake_any _).mono ?_; rintro e w' ⟨rfl, hg⟩)
    go_ret
    exact ⟨rfl, hg⟩
  have c1 : ∀ wx, Below w.heap.size w wx → Calls Try.prog 15 #[.slice A ss.length cap] wx fun e w' => e = .returned (.tuple #[.string (textOf (allT (lists ss))), .int .i64 (allE (lists ss))]) ∧ Below wx.heap.size wx w' :=
    fun wx hb => fall_any ss A cap wx ((ha.keep hb).mono hb.size) hs (by omega)
  have HA := Lib.hid ha; clear ha hs
  by_cases hok : allOk (lists ss) = true
  · rw [allT_yes hok, allE_yes hok] at c1
    have hfl := frms_length _ hok
    rw [lists_length] at hfl
    have c2 := fun wx => fnext_any h wx (by omega)
    unfold nxtV at c2
    have z1 : (textOf (frms (lists ss))).size ≤ 50000 := by rw [textOf_size]; omega
    have c3 : ∀ wx, Calls Try.prog 16 #[.string (textOf (frms (lists ss)) ++ h)] wx (CutRet wx (textOf (frms (lists ss)) ++ h).data.toList) := fun wx => fcut_any _ wx (by rw [ByteArray.size_append]; omega)
    have e1 : (textOf (frms (lists ss)) ++ h).data.toList = frms (lists ss) ++ h.data.toList := by rw [ByteArray.data_append, Array.toList_append, textOf_data]
    rw [e1] at c3
    generalize textOf (nBody h.data.toList) = nb at c2
    generalize nUsed h.data.toList = nu at c2
    by_cases hst : nSt h.data.toList = 1
    · rw [hst] at c2
      generalize textOf (frms (lists ss)) = t1 at c1 c2 z1
      have C1 := Lib.hid c1; have C2 := Lib.hid c2; clear c1 c2 c3 e1 hok hfl hst
      go_enter Try.func7, Try.ntmps7
      go_wp2_with fail
      refine (awake_any _).mono ?_
      rintro e w0 ⟨rfl, hb0⟩
      have HB0 := Lib.hid hb0; clear hb0
      go_wp2_with fail
      refine (C1.out _ HB0.out).mono ?_
      rintro e w1 ⟨rfl, hb1⟩
      have HB1 := Lib.hid (HB0.out.trans (hb1.mono HB0.out.size)); clear hb1 HB0
      go_wp2_with fail
      refine (C2.out _).mono ?_
      rintro e w2 ⟨rfl, hb2⟩
      have HB2 := Lib.hid (HB1.out.trans (hb2.mono HB1.out.size)); clear hb2 HB1
      go_wp2_with fail
      go_ret
      exact ⟨rfl, HB2.out⟩
    · have hct := cuts_frms (lists ss) h.data.toList hok hst
      have hen := end_frms (lists ss) h.data.toList hok
      have hbo := bods_frms (lists ss) h.data.toList hok
      generalize hstn : nSt h.data.toList = st at c2 hst
      have hst' : ¬ (st : Int) = 1 := by omega
      have hst2 : ((st : Int) == 1) = false := by rw [beq_eq_false_iff_ne]; exact hst'
      generalize textOf (frms (lists ss)) = t1 at c1 c2 c3 z1
      have C1 := Lib.hid c1; have C2 := Lib.hid c2; have C3 := Lib.hid c3; have HCT := Lib.hid hct; have HEN := Lib.hid hen; have HBO := Lib.hid hbo; have HSN := Lib.hid hstn
      clear c1 c2 c3 e1 hok hfl hst hct hen hbo hstn
      go_enter Try.func7, Try.ntmps7
      go_wp2_with fail
      refine (awake_any _).mono ?_
      rintro e w0 ⟨rfl, hb0⟩
      have HB0 := Lib.hid hb0; clear hb0
      go_wp2_with fail
      refine (C1.out _ HB0.out).mono ?_
      rintro e w1 ⟨rfl, hb1⟩
      have HB1 := Lib.hid (HB0.out.trans (hb1.mono HB0.out.size)); clear hb1 HB0
      go_wp2_with fail
      refine (C2.out _).mono ?_
      rintro e w2 ⟨rfl, hb2⟩
      have HB2 := Lib.hid (HB1.out.trans (hb2.mono HB1.out.size)); clear hb2 HB1
      go_wp2_with fail
      refine (C3.out _).mono ?_
      rintro e w3 ⟨n, v, rfl, hc, ho, hb3⟩
      obtain rfl := hc.eq HCT.out
      rw [HEN.out, textOf_of, HSN.out]
      rw [HBO.out, texts_lists] at ho
      obtain ⟨O, cap2, rfl, hsO⟩ := ho.read
      have HB3 := Lib.hid (HB2.out.trans (hb3.mono HB2.out.size)); have HSO := Lib.hid hsO; clear hb3 HB2 hc ho hsO C1 C2 C3 HCT HEN HBO HSN
      go_wp2_with fail
      go_loopg [13] ss.length (fun g si wx => ∃ j : Nat, j ≤ ss.length ∧ g = ss.length - j ∧ si = .int .i64 (j : Int) ∧ StrsAt wx w.heap.size A ss ∧ StrsAt wx w3.heap.size O ss ∧ Below w.heap.size w wx)
      case atStart => exact ⟨0, Nat.zero_le _, rfl, rfl, HA.out.keep HB3.out, HSO.out, HB3.out⟩
      case round =>
        obtain ⟨j, hj, hg, rfl, hA, hO, hb⟩ := hrel
        have HG := Lib.hid hg; have KA := Lib.hid hA; have KO := Lib.hid hO; have KB := Lib.hid hb; clear hg hA hO hb
        by_cases hlt : j < ss.length
        · obtain ⟨b1, o1, rfl, _, hc1⟩ := KA.out j hlt
          obtain ⟨b2, o2, rfl, _, hc2⟩ := KO.out j hlt
          generalize ss.getD j ByteArray.empty = t at hc1 hc2
          have b3 : (j : Int) < (ss.length : Int) := by omega
          have b4 : (0 : Int) ≤ (j : Int) := by omega
          go_wp2_with fail
          go_quiet (fail)
          go_wp2_with fail
          go_roundg (ss.length - (j + 1))
          case measure => have := HG.out; omega
          case rel => exact ⟨j + 1, by omega, rfl, by go_num, KA.out, KO.out, KB.out.trans ((below_drewN _ _).mono KB.out.size)⟩
        · go_wp2_with fail
          go_ret
          exact ⟨rfl, KB.out⟩
  · have hok : allOk (lists ss) = false := by simpa using hok
    rw [allT_no hok, allE_no hok] at c1
    have C1 := Lib.hid c1; clear c1 hok
    have x0 : (textOf []).toList = [] := by rw [ByteArray.toList_eq]; rfl
    have x1 : (⟨#[]⟩ : ByteArray).toList = [] := by rw [ByteArray.toList_eq]
    go_enter Try.func7, Try.ntmps7
    go_wp2_with fail
    refine (awake_any _).mono ?_
    rintro e w0 ⟨rfl, hb0⟩
    have HB0 := Lib.hid hb0; clear hb0
    go_wp2_with fail
    refine (C1.out _ HB0.out).mono ?_
    rintro e w1 ⟨rfl, hb1⟩
    have HB1 := Lib.hid (HB0.out.trans (hb1.mono HB0.out.size)); clear hb1 HB0
    go_wp2_with fail
    go_ret
    exact ⟨rfl, HB1.out⟩
end Go.Proofs.Ytakooppceifamaa
