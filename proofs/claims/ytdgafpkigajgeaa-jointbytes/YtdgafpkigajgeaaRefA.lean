/- The contracts of the document's own Num and Text. -/
import Derived.Test.YtdgafpkigajgeaaInB
import Derived.Laws.MakeOwn
namespace Go.Proofs.Ytdgafpkigajgeaa
open Go.RowKit Go.Lib Plain

theorem own_at {w : World} {B g k : Nat} {cs : Array Value} {bs : List UInt8} (h : At w g 5 cs) (hB : B ≤ g) (hk : bs.length = k) (hc : cs.toList = byteCells bs) (hm : k ≤ maxLen) : Own w B (.slice (some ⟨g, 0, none⟩) k k) bs := by
  subst hk
  have hs : cs.size = bs.length := by rw [← Array.length_toList, hc, byteCells_length]
  exact ⟨by rw [byteCells_length]; omega, .inr ⟨g, bs.length, cs, rfl, hB, h, Nat.le_refl _, hm, by omega, by rw [hc, List.take_of_length_le (by rw [byteCells_length]; omega)]⟩⟩
theorem drop_set {α : Type} (l : List α) (j : Nat) (a : α) (h : j < l.length) : (l.set j a).drop j = a :: l.drop (j + 1) := by
  rw [List.drop_eq_getElem_cons (by simpa using h), List.drop_set_of_lt (by omega)]
  simp
theorem byte_mod (n m : Nat) : IntKind.u8.wrap ((n / 256 ^ m : Nat) % 256 : Int) = ((UInt8.ofNat (n / 256 ^ m)).toNat : Int) := by
  rw [IntKind.wrap_u8', UInt8.toNat_ofNat']; omega
theorem div_zero (m k : Nat) : ((m : Int) / 256 ^ k == 0) = (m / 256 ^ k == 0) := by
  rw [Bool.eq_iff_iff, beq_iff_eq, beq_iff_eq]
  have : ((m : Int) / 256 ^ k) = ((m / 256 ^ k : Nat) : Int) := by simp
  omega
theorem ret_sb {s t : ByteArray} {a b : Bool} (h : s = t) (h2 : a = b) : Ending.returned (.tuple #[.string s, .bool a]) = .returned (.tuple #[.string t, .bool b]) := by rw [h, h2]

set_option maxRecDepth 100000 in
set_option maxHeartbeats 1600000 in
theorem rnum_ok (wd n : Int) (w : World) (hw : wide wd = true) (h0 : 0 ≤ n) (h1 : n ≤ 9223372036854775807) :
    Calls Try.prog 34 #[.int .i64 wd, .int .i64 n] w fun e w' => e = .returned (.tuple #[.string (textOf (num wd n)), .bool (fit wd n)]) ∧ Below w.heap.size w w' := by
  obtain ⟨k, rfl⟩ : ∃ k : Nat, wd = (k : Int) := ⟨wd.toNat, by have := (wide_iff wd).1 hw; omega⟩
  obtain ⟨m, rfl⟩ := Int.eq_ofNat_of_zero_le h0
  have hk := (wide_iff _).1 hw
  have hk8 : k ≤ 8 := by omega
  have hk1 : 1 ≤ k := by omega
  have hf : fit (k : Int) (m : Int) = (m / 256 ^ k == 0) := by
    rw [Bool.eq_iff_iff, fit_iff]
    simp only [Int.toNat_natCast, beq_iff_eq]
    rw [Nat.div_eq_zero_iff]
    have : 0 < 256 ^ k := Nat.pow_pos (by omega)
    omega
  have HF := Lib.hid hf; clear hf
  have en : num (k : Int) (m : Int) = enc k m := rfl
  rw [en]
  clear en
  obtain ⟨i0, hi0, hz0, hz1, hz2⟩ := info_parts info5
  obtain ⟨M, hM, hmk⟩ : ∃ M : Array Value, M.size = k ∧ ∀ W : World, (Instr.makeSlice 54 (.int .i64 (k : Int)) (.int .i64 (k : Int))).run Try.prog W = .ok (.slice (some ⟨W.heap.size, 0, none⟩) k k) (W.alloc (.cells M 5)) := by
    refine ⟨madeCells (Value.int .u8 0).cells (((k : Nat) : Int).toNat * i0.size), by rw [size_madeCells, hz1]; simp, fun W => ?_⟩
    have h := run_make (P := Try.prog) W 54 5 i0 (.int .u8 0) Try.underlying54 hi0 hz0 .i64 .i64 (k : Int) (k : Int) (by omega) (by omega) (by rw [hz2]; omega) (by omega)
    simpa using h
  have HM := Lib.hid hM; clear hM hi0 hz0 hz1 hz2
  have HK := Lib.hid hk; have HW := Lib.hid hw; clear hk hw
  rcases HK.out with h | h | h | h
  all_goals
    (first | (have t1 : ((k : Int) != 1) = true := by (simp; omega)) | (have t1 : ((k : Int) != 1) = false := by (simp; omega)))
    (first | (have t2 : ((k : Int) != 2) = true := by (simp; omega)) | (have t2 : ((k : Int) != 2) = false := by (simp; omega)))
    (first | (have t4 : ((k : Int) != 4) = true := by (simp; omega)) | (have t4 : ((k : Int) != 4) = false := by (simp; omega)))
    (first | (have t8 : ((k : Int) != 8) = true := by (simp; omega)) | (have t8 : ((k : Int) != 8) = false := by (simp; omega)))
    clear h
    go_enter Try.func34, Try.ntmps34
    go_wp2_with fail
    go_loopg [1, 7] k (fun g sn si wx => ∃ (j : Nat) (cs : Array Value), j ≤ k ∧ g = j ∧ si = .int .i64 ((j : Int) - 1) ∧ sn = .int .i64 ((m / 256 ^ (k - j) : Nat) : Int) ∧ At wx w.heap.size 5 cs ∧ cs.size = k ∧ cs.toList.drop j = byteCells (enc (k - j) m) ∧ Below w.heap.size w wx)
    case atStart => exact ⟨k, M, Nat.le_refl _, rfl, rfl, by simp, At.new _ _ _, HM.out, by rw [List.drop_of_length_le (by simp [HM.out])]; simp [enc, byteCells], (Below.refl _ _).alloc (Nat.le_refl _) _⟩
    case round =>
      obtain ⟨j, cs, hj, hg, rfl, rfl, hat, hcs, hdr, hbel⟩ := hrel
      have HG := Lib.hid hg; have HDR := Lib.hid hdr; clear hg hdr
      by_cases hlt : 0 < j
      · obtain ⟨i, rfl⟩ : ∃ i, j = i + 1 := ⟨j - 1, by omega⟩
        have hik : i < cs.size := by omega
        have hcell : wr.cell? ⟨w.heap.size, i, none⟩ = some cs[i] := by rw [At.cell hat]; simp [hik]
        have hfr := At.frozen hat i
        have hbm := byte_mod m (k - (i + 1))
        have hnx : m / 256 ^ (k - (i + 1)) / 256 = m / 256 ^ (k - i) := by
          rw [Nat.div_div_eq_div_mul, ← Nat.pow_succ, show (k - (i + 1)).succ = k - i by omega]
        have hq : m / 256 ^ (k - (i + 1)) ≤ m := Nat.div_le_self _ _
        have hst : enc (k - i) m = UInt8.ofNat (m / 256 ^ (k - (i + 1))) :: enc (k - (i + 1)) m := by
          rw [show k - i = (k - (i + 1)) + 1 by omega, enc]
        obtain ⟨b, hb⟩ : ∃ b : UInt8, b = UInt8.ofNat (m / 256 ^ (k - (i + 1))) := ⟨_, rfl⟩
        rw [← hb] at hst hbm
        have HST := Lib.hid hst; have HNX := Lib.hid hnx; have HB := Lib.hid hb; clear hst hnx hb
        have HAT := Lib.hid hat; have HBEL := Lib.hid hbel; have HCS := Lib.hid hcs; clear hat hbel hcs
        generalize m / 256 ^ (k - (i + 1)) = q at *
        have hqi : (q : Int) ≤ 9223372036854775807 := by omega
        generalize hci : cs[i] = ci at hcell
        clear hci
        go_wp2_with fail
        go_roundg i
        case measure => have := HG.out; omega
        case rel =>
          refine ⟨i, cs.setIfInBounds i (.int .u8 (b.toNat : Int)), by omega, rfl, ?_, ?_, ?_, by simpa using HCS.out, ?_, HBEL.out.setCell (p := ⟨w.heap.size, i, none⟩) (Nat.le_refl _) _⟩
          · go_num
          · rw [← HNX.out]; go_num
          · exact At.set HAT.out i _
          · rw [Array.toList_setIfInBounds, drop_set _ _ _ (by simpa using hik), HDR.out, HST.out]; rfl
      · obtain rfl : j = 0 := by omega
        have hown : Own wr w.heap.size (.slice (some ⟨w.heap.size, 0, none⟩) k k) (enc k m) := own_at hat (Nat.le_refl _) (enc_length _ _) (by simpa using HDR.out) (by unfold maxLen; omega)
        have hcv := conv_own hown
        have HBEL := Lib.hid hbel; clear hbel hown hat hcs
        go_wp2_with fail
        go_ret2
        refine ⟨ret_sb rfl ?_, HBEL.out⟩
        rw [HF.out]; exact div_zero m k

set_option maxHeartbeats 400000 in
theorem rnum_no (wd n : Int) (w : World) (h : ¬ (wide wd = true ∧ 0 ≤ n)) :
    Calls Try.prog 34 #[.int .i64 wd, .int .i64 n] w fun e w' => e = .returned (.tuple #[.string ⟨#[]⟩, .bool false]) ∧ w = w' := by
  by_cases hw : wide wd = true
  · have hn : n < 0 := by
      apply Int.lt_of_not_ge; intro h9; exact h ⟨hw, h9⟩
    have hk := (wide_iff _).1 hw
    clear h hw
    rcases hk with rfl | rfl | rfl | rfl
    all_goals
      go_enter Try.func34, Try.ntmps34
      go_wp2
      go_ret2
      exact ⟨rfl, rfl⟩
  · have t1 : (wd != 1) = true := by simp; intro e; exact hw ((wide_iff _).2 (.inl e))
    have t2 : (wd != 2) = true := by simp; intro e; exact hw ((wide_iff _).2 (.inr (.inl e)))
    have t4 : (wd != 4) = true := by simp; intro e; exact hw ((wide_iff _).2 (.inr (.inr (.inl e))))
    have t8 : (wd != 8) = true := by simp; intro e; exact hw ((wide_iff _).2 (.inr (.inr (.inr e))))
    clear h hw
    go_enter Try.func34, Try.ntmps34
    go_wp2
    go_ret2
    exact ⟨rfl, rfl⟩

/-- the document's bytes of a number: none if it has none -/
def rnumS (wd n : Int) : List UInt8 := if wide wd = true ∧ 0 ≤ n then num wd n else []
theorem rnumS_ok {wd n : Int} (h : okNums wd [n] = true) : rnumS wd n = num wd n := by
  unfold okNums at h
  simp only [List.all_cons, List.all_nil, Bool.and_true, Bool.and_eq_true, fit_iff] at h
  exact if_pos ⟨h.1, h.2.1⟩
theorem rnumS_length (wd n : Int) : (rnumS wd n).length ≤ 8 := by
  unfold rnumS
  split
  · rename_i h
    rw [num_length]; have := (wide_iff wd).1 h.1; omega
  · simp
theorem rnum_any (wd n : Int) (w : World) (h1 : inI64 n) :
    Calls Try.prog 34 #[.int .i64 wd, .int .i64 n] w fun e w' => e = .returned (.tuple #[.string (textOf (rnumS wd n)), .bool (okNums wd [n])]) ∧ Below w.heap.size w w' := by
  by_cases h : wide wd = true ∧ 0 ≤ n
  · refine (rnum_ok wd n w h.1 h.2 h1.2).mono ?_
    rintro e w' ⟨rfl, hb⟩
    exact ⟨ret_sb (by rw [rnumS, if_pos h]) (by unfold okNums; rw [h.1]; simp), hb⟩
  · refine (rnum_no wd n w h).mono ?_
    rintro e w' ⟨rfl, rfl⟩
    refine ⟨ret_sb (by rw [rnumS, if_neg h]; rfl) ?_, Below.refl _ _⟩
    unfold okNums
    rw [eq_comm, Bool.eq_false_iff]
    intro hk
    simp only [List.all_cons, List.all_nil, Bool.and_true, Bool.and_eq_true, fit_iff] at hk
    exact h ⟨hk.1, hk.2.1⟩

end Go.Proofs.Ytdgafpkigajgeaa
