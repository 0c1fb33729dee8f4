/- The walk of FrameCuts: it returns true. -/
import Derived.Test.YtakooppceifamaaFrmG
import Derived.BigQuiet
namespace Go.Proofs.Ytakooppceifamaa
open Go.RowKit Go.Lib Plain

namespace Plain
/-- the document's frames of bodies, one behind the other; of what has none nothing -/
def wants (L : List (List UInt8)) : List UInt8 := L.flatMap ofT
theorem wants_snoc (L : List (List UInt8)) (l : List UInt8) : wants (L ++ [l]) = wants L ++ ofT l := by simp [wants]
theorem wants_ok (L : List (List UInt8)) (h : allOk L = true) : wants L = frms L := by
  induction L with
  | nil => rfl
  | cons a r ih =>
    unfold allOk at h
    rw [List.all_cons, Bool.and_eq_true] at h
    show ofT a ++ wants r = frm a ++ frms r
    rw [ofT_yes h.1, ih h.2]
theorem ofT_length (l : List UInt8) : (ofT l).length ≤ 2054 := by
  by_cases h : okB l = true
  · rw [ofT_yes h, frm_length]; have := (okB_iff l).1 h; omega
  · rw [ofT_no (by simpa using h)]; simp
theorem wants_length (L : List (List UInt8)) : (wants L).length ≤ L.length * 2054 := by
  induction L with
  | nil => simp [wants]
  | cons a r ih =>
    show (ofT a ++ wants r).length ≤ _
    have := ofT_length a
    rw [List.length_append, List.length_cons]
    omega
theorem allOk_snoc (L : List (List UInt8)) (l : List UInt8) : allOk (L ++ [l]) = (allOk L && okB l) := by
  unfold allOk; rw [List.all_append, List.all_cons, List.all_nil, Bool.and_true]
theorem rst_many (l : List UInt8) (j : Nat) (h : ∀ i, i < j → nSt (rst l i) = 1) : j + (rst l j).length ≤ l.length := by
  induction j with
  | zero => show 0 + l.length ≤ _; omega
  | succ j ih =>
    have := ih (fun i hi => h i (by omega))
    have hj := h j (by omega)
    have hw := whole hj
    have hu := nUsed_yes hj
    show j + 1 + ((rst l j).drop (nUsed (rst l j))).length ≤ _
    rw [List.length_drop]; omega
theorem rst_length (l : List UInt8) (j : Nat) : (rst l j).length ≤ l.length := by
  induction j with
  | zero => exact Nat.le_refl _
  | succ j ih =>
    show ((rst l j).drop (nUsed (rst l j))).length ≤ _
    rw [List.length_drop]; omega
end Plain

set_option maxRecDepth 100000 in
set_option maxHeartbeats 1600000 in
theorem cuts_walk (A : Option Addr) (cap : Nat) (ss : List ByteArray) (s : ByteArray) (w : World) (hs : ∀ y ∈ ss, y.size ≤ maxLen) (ha : StrsAt w w.heap.size A ss) (hl : ss.length ≤ maxLen) (hh : s.size ≤ maxLen) :
    Calls Try.prog 4 #[.slice A ss.length cap, .string s] w fun e w' => e = .returned (.bool true) ∧ Below w.heap.size w w' := by
  unfold maxLen at hl hh
  by_cases g1 : 20 < ss.length
  · clear hs ha
    go_enter Try.func4, Try.ntmps4
    go_wp2_with (go_at_call 9; refine (awake_any _).mono ?_; rintro e w' ⟨rfl, hg⟩)
    go_ret
    exact ⟨rfl, hg⟩
  by_cases g2 : 4096 < s.size
  · clear hs ha
    go_enter Try.func4, Try.ntmps4
    go_wp2_with (go_at_call 9; refine (awake_any _).mono ?_; rintro e w' ⟨rfl, hg⟩)
    go_ret
    exact ⟨rfl, hg⟩
  have c1 : ∀ wx, Below w.heap.size w wx → Calls Try.prog 15 #[.slice A ss.length cap] wx fun e w' => e = .returned (.tuple #[.string (textOf (allT (lists ss))), .int .i64 (allE (lists ss))]) ∧ Below wx.heap.size wx w' :=
    fun wx hb => fall_any ss A cap wx ((ha.keep hb).mono hb.size) hs (by omega)
  have c3 : ∀ wx, Calls Try.prog 16 #[.string s] wx (CutRet wx s.data.toList) := fun wx => fcut_any s wx (by omega)
  have hsl : s.data.toList.length ≤ 4096 := by rw [size_list]; omega
  have C1 := Lib.hid c1; have C3 := Lib.hid c3; have HA := Lib.hid ha; have HS := Lib.hid hs; have HSL := Lib.hid hsl; clear c1 c3 ha hs hsl
  go_enter Try.func4, Try.ntmps4
  go_wp2_with fail
  refine (awake_any _).mono ?_
  rintro e w0 ⟨rfl, hb0⟩
  have HB0 := Lib.hid hb0; clear hb0
  go_wp2_with fail
  go_loopg [5, 6, 7] ss.length (fun g s5 s6 s7 wx => ∃ j : Nat, j ≤ ss.length ∧ g = ss.length - j ∧ s7 = .int .i64 (j : Int) ∧ s5 = .string (textOf (wants (lists (ss.take j)))) ∧ s6 = .bool (allOk (lists (ss.take j))) ∧ Below w.heap.size w wx)
  case atStart => exact ⟨0, Nat.zero_le _, rfl, rfl, rfl, rfl, HB0.out⟩
  case round =>
    obtain ⟨j, hj, hg, rfl, rfl, rfl, hb⟩ := hrel
    have HG := Lib.hid hg; have KB := Lib.hid hb; clear hg hb HB0
    by_cases hlt : j < ss.length
    · obtain ⟨b1, o1, rfl, _, hc1⟩ := (HA.out.keep KB.out) j hlt
      have htk := lists_take ss j hlt
      have hw1 : textOf (wants (lists (ss.take j))) ++ textOf (ofT (ss.getD j ByteArray.empty).data.toList) = textOf (wants (lists (ss.take (j + 1)))) := by rw [textOf_append, htk, wants_snoc]
      have ho1 : allOk (lists (ss.take (j + 1))) = (allOk (lists (ss.take j)) && okB (ss.getD j ByteArray.empty).data.toList) := by rw [htk, allOk_snoc]
      have hz1 : (textOf (wants (lists (ss.take j)))).size ≤ 50000 := by
        rw [textOf_size]
        have := wants_length (lists (ss.take j))
        rw [lists_length, List.length_take] at this
        omega
      have hz2 : (textOf (ofT (ss.getD j ByteArray.empty).data.toList)).size ≤ 2054 := by rw [textOf_size]; exact ofT_length _
      have co := rof_any (ss.getD j ByteArray.empty) wr (HS.out _ (by simp [hlt]))
      generalize textOf (wants (lists (ss.take j))) = t5 at hw1 hz1 ⊢
      generalize textOf (ofT (ss.getD j ByteArray.empty).data.toList) = t8 at hw1 hz2 co
      generalize okB (ss.getD j ByteArray.empty).data.toList = q9 at ho1 co
      generalize allOk (lists (ss.take j)) = q6 at ho1 ⊢
      generalize ss.getD j ByteArray.empty = t at hc1 co
      have b3 : (j : Int) < (ss.length : Int) := by omega
      have b4 : (0 : Int) ≤ (j : Int) := by omega
      have HW1 := Lib.hid hw1; have HO1 := Lib.hid ho1; have CO := Lib.hid co; clear hw1 ho1 co htk
      by_cases h300 : 300 < t.size
      · go_wp2_with fail
        go_ret
        exact ⟨rfl, KB.out⟩
      · go_wp2_with fail
        refine CO.out.mono ?_
        rintro e w1 ⟨rfl, hb1⟩
        have HB1 := Lib.hid (KB.out.trans (hb1.mono KB.out.size)); clear hb1
        cases q6
        all_goals
          go_wp2_with fail
          go_roundg (ss.length - (j + 1))
          case measure => have := HG.out; omega
          case rel => exact ⟨j + 1, by omega, rfl, by go_num, by rw [HW1.out], by rw [HO1.out]; rfl, HB1.out⟩
    · have hje : ss.take j = ss := List.take_of_length_le (by omega)
      rw [hje]
      clear hje HS HG
      have c1 := C1.out wr KB.out
      have hwf : allOk (lists ss) = true → textOf (wants (lists ss)) = textOf (frms (lists ss)) := fun h => by rw [wants_ok _ h]
      have hcase : (allOk (lists ss) = true ∧ textOf (allT (lists ss)) = textOf (wants (lists ss)) ∧ allE (lists ss) = 0) ∨ (allOk (lists ss) = false ∧ textOf (allT (lists ss)) = ⟨#[]⟩ ∧ allE (lists ss) = 1) := by
        cases hq : allOk (lists ss)
        · exact .inr ⟨rfl, by rw [allT_no hq]; rfl, allE_no hq⟩
        · exact .inl ⟨rfl, by rw [allT_yes hq, hwf hq], allE_yes hq⟩
      clear hwf
      generalize textOf (allT (lists ss)) = tA at c1 hcase
      generalize textOf (wants (lists ss)) = tW at hcase ⊢
      generalize allE (lists ss) = eA at c1 hcase
      generalize allOk (lists ss) = qA at hcase ⊢
      have CA := Lib.hid c1; clear c1 C1
      rcases hcase with ⟨rfl, rfl, rfl⟩ | ⟨rfl, rfl, rfl⟩
      all_goals
        go_wp2_with fail
        refine CA.out.mono ?_
        rintro e w1 ⟨rfl, hb1⟩
        have HB1 := Lib.hid (KB.out.trans (hb1.mono KB.out.size)); clear hb1 CA KB
        go_wp2_with fail
        refine (C3.out _).mono ?_
        rintro e w2 ⟨n, v, rfl, hc, ho, hb2⟩
        obtain ⟨O, cap2, rfl, hsO⟩ := ho.read
        have hln : ((bods s.data.toList n).map textOf).length = n := by rw [List.length_map, bods_length]
        rw [hln]
        have HB2 := Lib.hid (HB1.out.trans (hb2.mono HB1.out.size)); have HSO := Lib.hid hsO; have HCC := Lib.hid hc; have HLN := Lib.hid hln; clear hb2 HB1 hc ho hsO hln C3
        generalize hB2 : w2.heap.size = B2 at HSO
        have hn4 : n ≤ 4096 := by have := rst_many _ _ HCC.out.all; have := HSL.out; omega
        have hnst : ¬ (nSt (rst s.data.toList n) : Int) = 1 := by have := HCC.out.stop; omega
        have hnst2 : ((nSt (rst s.data.toList n) : Int) == 1) = false := by rw [beq_eq_false_iff_ne]; exact hnst
        go_wp2_with fail
        go_loopg [15, 16] n (fun g s15 s16 wx => ∃ i : Nat, i ≤ n ∧ g = n - i ∧ s16 = .int .i64 (i : Int) ∧ s15 = .string (textOf (rst s.data.toList i)) ∧ StrsAt wx B2 O ((bods s.data.toList n).map textOf) ∧ Below w.heap.size w wx ∧ B2 ≤ wx.heap.size)
        case atStart => exact ⟨0, Nat.zero_le _, rfl, rfl, by rw [show rst s.data.toList 0 = s.data.toList from rfl, textOf_of], HSO.out, HB2.out, by omega⟩
        case round =>
          obtain ⟨i, hi, hg, rfl, rfl, hO, hb, hBz⟩ := hrel
          have HG := Lib.hid hg; have KB := Lib.hid hb; have KO := Lib.hid hO; clear hg hb hO HB2 HSO
          have hrl := rst_length s.data.toList i
          have hsl := HSL.out
          have cn := rnext_any (textOf (rst s.data.toList i)) wr (by rw [textOf_size]; omega)
          rw [textOf_data] at cn
          unfold nxtV at cn
          have hzt := textOf_size (rst s.data.toList i)
          by_cases hlt : i < n
          · obtain ⟨b2, o2, rfl, _, hc2⟩ := KO.out i (by rw [HLN.out]; exact hlt)
            have hge : ((bods s.data.toList n).map textOf).getD i ByteArray.empty = textOf (nBody (rst s.data.toList i)) := by simp [bods, hlt]
            rw [hge] at hc2
            have h1 := HCC.out.all i hlt
            have hw := whole h1
            have hu := nUsed_yes h1
            have hdt : (textOf (rst s.data.toList i)).extract (nUsed (rst s.data.toList i)) (rst s.data.toList i).length = textOf (rst s.data.toList (i + 1)) := by
              have := drop_text (rst s.data.toList i) (nUsed (rst s.data.toList i))
              rw [textOf_size] at this
              exact this
            rw [h1] at cn
            have hus : nUsed (rst s.data.toList i) ≤ (rst s.data.toList i).length := by omega
            generalize textOf (nBody (rst s.data.toList i)) = tB at cn hc2
            generalize nUsed (rst s.data.toList i) = us at cn hdt hus
            generalize textOf (rst s.data.toList i) = tL at cn hdt hzt ⊢
            generalize (rst s.data.toList i).length = lz at hdt hzt hus hrl
            have CN := Lib.hid cn; have HDT := Lib.hid hdt
            have b3 : (i : Int) < (n : Int) := by omega
            have b4 : (0 : Int) ≤ (i : Int) := by omega
            have hblk : b2 < wr.heap.size := by have := World.block_lt_of_cell? wr _ hc2; simpa using this
            clear cn hdt hge h1 hw hu hnst hnst2
            go_wp2_with fail
            refine CN.out.mono ?_
            rintro e w4 ⟨rfl, hb4⟩
            rw [← hb4.cell (by exact hblk)] at hc2
            have KO4 := Lib.hid (KO.out.keep (hb4.mono hBz)); have KB4 := Lib.hid (KB.out.trans (hb4.mono KB.out.size)); have hBz4 := Nat.le_trans hBz hb4.size
            clear hb4 KO KB
            go_wp2_with fail
            go_roundg (n - (i + 1))
            case measure => have := HG.out; omega
            case rel => exact ⟨i + 1, by omega, rfl, by go_num, by rw [← HDT.out], KO4.out, KB4.out, hBz4⟩
          · obtain rfl : i = n := by omega
            generalize textOf (nBody (rst s.data.toList i)) = tB at cn
            generalize nUsed (rst s.data.toList i) = us at cn
            generalize textOf (rst s.data.toList i) = tL at cn hzt ⊢
            generalize nSt (rst s.data.toList i) = st at cn hnst hnst2
            have CN := Lib.hid cn; clear cn
            go_wp2_with fail
            refine CN.out.mono ?_
            rintro e w4 ⟨rfl, hb4⟩
            have KB4 := Lib.hid (KB.out.trans (hb4.mono KB.out.size)); clear hb4 KB KO
            go_wp2_with fail
            go_ret
            exact ⟨ret_bool (by rw [bne, hnst2]; rfl), KB4.out⟩
end Go.Proofs.Ytakooppceifamaa
