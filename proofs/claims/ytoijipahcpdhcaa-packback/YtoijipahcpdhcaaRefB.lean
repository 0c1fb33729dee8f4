/- What a call of (*pack.In).Num or Text answers and leaves, as one function; the same of the document's own In. -/
import Derived.Test.YtoijipahcpdhcaaActs
namespace Go.Proofs.Ytoijipahcpdhcaa
open Go.RowKit Go.Lib Plain

/-- whether the next number of wd bytes can be read -/
def rdN (wd : Int) (s : ByteArray) : Bool := wide wd && decide (wd.toNat ≤ s.size) && decide (dec (s.data.toList.take wd.toNat) ≤ 9223372036854775807)
theorem rdN_iff (wd : Int) (s : ByteArray) : rdN wd s = true ↔ wide wd = true ∧ wd.toNat ≤ s.size ∧ dec (s.data.toList.take wd.toNat) ≤ 9223372036854775807 := by
  unfold rdN; simp [and_assoc]
def inV (wd : Int) (s : ByteArray) : Int := if rdN wd s = true then (dec (s.data.toList.take wd.toNat) : Int) else 0
def inS (wd : Int) (s : ByteArray) : ByteArray := if rdN wd s = true then textOf (s.data.toList.drop wd.toNat) else ⟨#[]⟩
def inB (wd : Int) (s : ByteArray) (bad : Bool) : Bool := if rdN wd s = true then bad else true
theorem inS_size (wd : Int) (s : ByteArray) : (inS wd s).size ≤ s.size := by
  unfold inS
  split
  · rw [textOf_size, List.length_drop, ← Lib.size_eq]; omega
  · exact Nat.zero_le _
theorem inum_any {w : World} {p : Nat} {s : ByteArray} {bad : Bool} (wd : Int) (h : InAt w p s bad) (hs : s.size ≤ maxLen) :
    Calls Try.prog 16 #[.pointer (some ⟨p, 0, none⟩), .int .i64 wd] w fun e w' => e = .returned (.int .i64 (inV wd s)) ∧ Took w p (inS wd s) (inB wd s bad) w' := by
  by_cases hr : rdN wd s = true
  · have h3 := (rdN_iff _ _).1 hr
    unfold inV inS inB
    rw [if_pos hr, if_pos hr, if_pos hr]
    exact inum_ok wd h h3.1 h3.2.1 hs h3.2.2
  · unfold inV inS inB
    rw [if_neg hr, if_neg hr, if_neg hr]
    exact inum_bad wd h hs (fun h9 => hr ((rdN_iff _ _).2 h9))
/-- whether the next text can be read, of at most so many bytes -/
def rdT (most : Int) (s : ByteArray) : Bool := decide (2 ≤ s.size) && decide ((dec (s.data.toList.take 2) : Int) ≤ most) && decide (dec (s.data.toList.take 2) + 2 ≤ s.size)
theorem rdT_iff (most : Int) (s : ByteArray) : rdT most s = true ↔ 2 ≤ s.size ∧ (dec (s.data.toList.take 2) : Int) ≤ most ∧ dec (s.data.toList.take 2) + 2 ≤ s.size := by
  unfold rdT; simp [and_assoc]
def tV (most : Int) (s : ByteArray) : ByteArray := if rdT most s = true then textOf ((s.data.toList.drop 2).take (dec (s.data.toList.take 2))) else ⟨#[]⟩
def tS (most : Int) (s : ByteArray) : ByteArray := if rdT most s = true then textOf (s.data.toList.drop (2 + dec (s.data.toList.take 2))) else ⟨#[]⟩
def tB (most : Int) (s : ByteArray) (bad : Bool) : Bool := if rdT most s = true then bad else true
theorem tS_size (most : Int) (s : ByteArray) : (tS most s).size ≤ s.size := by
  unfold tS
  split
  · rw [textOf_size, List.length_drop, ← Lib.size_eq]; omega
  · exact Nat.zero_le _
theorem itext_any {w : World} {p : Nat} {s : ByteArray} {bad : Bool} (most : Int) (h : InAt w p s bad) (hs : s.size ≤ 281474976710656) :
    Calls Try.prog 18 #[.pointer (some ⟨p, 0, none⟩), .int .i64 most] w fun e w' => e = .returned (.string (tV most s)) ∧ Took w p (tS most s) (tB most s bad) w' := by
  by_cases hr : rdT most s = true
  · have h3 := (rdT_iff _ _).1 hr
    unfold tV tS tB
    rw [if_pos hr, if_pos hr, if_pos hr]
    exact itext_ok most _ h hs h3.1 rfl h3.2.1 h3.2.2
  · unfold tV tS tB
    rw [if_neg hr, if_neg hr, if_neg hr]
    exact itext_bad most h hs (fun h9 => hr ((rdT_iff _ _).2 h9))

/-- the document's In at block q, beside one of the program's that is left with s: while it isn't bad it has the same bytes -/
def RefAt (w : World) (q : Nat) (s : ByteArray) (bad : Bool) : Prop := ∃ S : ByteArray, At w q 42 #[.string S, .bool bad] ∧ (bad = false → S = s) ∧ (bad = true → s = ⟨#[]⟩) ∧ S.size ≤ 65536
theorem RefAt.chg {w w' : World} {T : Nat → Prop} {q : Nat} {s : ByteArray} {bad : Bool} (h : RefAt w q s bad) (hc : Chg w w' T) (hq : ¬ T q) : RefAt w' q s bad := by
  obtain ⟨S, h1, h2⟩ := h
  exact ⟨S, h1.chg hc hq, h2⟩
theorem RefAt.lt {w : World} {q : Nat} {s : ByteArray} {bad : Bool} (h : RefAt w q s bad) : q < w.heap.size := h.choose_spec.1.lt

theorem dec_append (a b : List UInt8) : dec (a ++ b) = dec a * 256 ^ b.length + dec b := by
  show (a ++ b).foldl _ 0 = _
  rw [List.foldl_append, dec_from]; rfl
theorem dec_take_le (l : List UInt8) (j k : Nat) (h : j ≤ k) : dec (l.take j) ≤ dec (l.take k) := by
  have e : l.take k = l.take j ++ (l.drop j).take (k - j) := by
    rw [← List.take_add]; congr 1; omega
  rw [e, dec_append]
  have : 0 < 256 ^ ((l.drop j).take (k - j)).length := Nat.pow_pos (by omega)
  have : dec (l.take j) * 1 ≤ dec (l.take j) * 256 ^ ((l.drop j).take (k - j)).length := Nat.mul_le_mul_left _ this
  omega
theorem head_le (s : ByteArray) (h : 8 ≤ s.size) : dec (s.data.toList.take 8) ≤ 9223372036854775807 ↔ (s[0].toNat : Int) ≤ 127 := by
  have e : s.data.toList.take 8 = s[0] :: (s.data.toList.drop 1).take 7 := by
    have h1 : s.data.toList = s[0] :: s.data.toList.drop 1 := by
      have hlen : 0 < s.data.toList.length := by rw [← Lib.size_eq]; omega
      exact List.drop_eq_getElem_cons (i := 0) hlen
    conv => lhs; rw [h1]
    rfl
  rw [e, dec_cons]
  have hl : ((s.data.toList.drop 1).take 7).length = 7 := by
    rw [List.length_take, List.length_drop]; simp; omega
  have hlt := dec_lt ((s.data.toList.drop 1).take 7)
  rw [hl] at hlt ⊢
  have hb : s[0].toNat < 256 := s[0].toNat_lt
  generalize dec ((s.data.toList.drop 1).take 7) = d at *
  generalize s[0].toNat = c at *
  have e7 : (256 : Nat) ^ 7 = 72057594037927936 := by decide
  rw [e7] at hlt ⊢
  omega

set_option maxRecDepth 100000 in
set_option maxHeartbeats 3200000 in
theorem rinum_ok {w : World} {q : Nat} {s : ByteArray} (wd : Int) (h : At w q 42 #[.string s, .bool false]) (hr : rdN wd s = true) (hs : s.size ≤ 65536) :
    Calls Try.prog 17 #[.pointer (some ⟨q, 0, none⟩), .int .i64 wd] w fun e w' => e = .returned (.int .i64 (dec (s.data.toList.take wd.toNat) : Int)) ∧ At w' q 42 #[.string (textOf (s.data.toList.drop wd.toNat)), .bool false] ∧ Chg w w' (fun k => k = q) := by
  obtain ⟨hw, hl, hd⟩ := (rdN_iff _ _).1 hr
  obtain ⟨k, rfl⟩ : ∃ k : Nat, wd = (k : Int) := ⟨wd.toNat, by have := (wide_iff wd).1 hw; omega⟩
  have hk := (wide_iff _).1 hw
  rw [Int.toNat_natCast] at hl hd ⊢
  have hk8 : k ≤ 8 := by omega
  have hk1 : 1 ≤ k := by omega
  have c0 : w.cell? ⟨q, 0, none⟩ = some (.string s) := by rw [At.cell h]; rfl
  have c1 : w.cell? ⟨q, 1, none⟩ = some (.bool false) := by rw [At.cell h]; rfl
  have f0 := At.frozen h 0
  have hnl : ¬ (s.size : Int) < (k : Int) := by omega
  have HAT := Lib.hid h; have HD := Lib.hid hd; have HK := Lib.hid hk; clear h hd hk hw hr
  have hx8 : k = 8 → (s[0].toNat : Int) ≤ 127 := fun e => by
    subst e; exact (head_le s (by omega)).1 HD.out
  have h0s : 0 < s.size := by omega
  rcases HK.out with h | h | h | h
  all_goals
    (first | (have t1 : ((k : Int) != 1) = true := by (simp; omega)) | (have t1 : ((k : Int) != 1) = false := by (simp; omega)))
    (first | (have t2 : ((k : Int) != 2) = true := by (simp; omega)) | (have t2 : ((k : Int) != 2) = false := by (simp; omega)))
    (first | (have t4 : ((k : Int) != 4) = true := by (simp; omega)) | (have t4 : ((k : Int) != 4) = false := by (simp; omega)))
    (first | (have t8 : ((k : Int) != 8) = true := by (simp; omega)) | (have t8 : ((k : Int) != 8) = false := by (simp; omega)))
    (first | (have u8 : ((k : Int) == 8) = true := by (simp; omega)) | (have u8 : ((k : Int) == 8) = false := by (simp; omega)))
    (first | (have q8 : (s[0].toNat : Int) ≤ 127 := hx8 (by omega)) | skip)
    clear h hx8
    go_enter Try.func17, Try.ntmps17
    go_wp2_with fail
    go_loopg [5, 6] k (fun g sn si wx => w = wx ∧ ∃ j : Nat, j ≤ k ∧ g = k - j ∧ si = .int .i64 (j : Int) ∧ sn = .int .i64 (dec (s.data.toList.take j) : Int))
    case atStart => exact ⟨rfl, 0, Nat.zero_le _, rfl, rfl, rfl⟩
    case round =>
      obtain ⟨rfl, j, hj, hg, rfl, rfl⟩ := hrel
      have HG := Lib.hid hg; clear hg
      by_cases hlt : j < k
      · have hjs : j < s.size := by omega
        have hst := congrArg dec (take_snoc s j hjs)
        rw [dec_snoc] at hst
        have hle := dec_take_le s.data.toList (j + 1) k (by omega)
        rw [hst] at hle
        have hb9 : dec (s.data.toList.take j) * 256 + s[j].toNat ≤ 9223372036854775807 := Nat.le_trans hle HD.out
        have HST := Lib.hid hst; clear hst hle
        generalize dec (s.data.toList.take j) = n at *
        go_wp2_with fail
        go_roundg (k - (j + 1))
        case measure => have := HG.out; omega
        case rel => exact ⟨rfl, j + 1, by omega, rfl, by go_num, by rw [HST.out]; go_num⟩
      · obtain rfl : j = k := by omega
        obtain ⟨n, hn⟩ : ∃ n, dec (s.data.toList.take j) = n := ⟨_, rfl⟩
        rw [hn]
        have HN := Lib.hid hn; clear hn
        go_wp2_with fail
        go_ret
        have e2 : s.extract j s.size = textOf (s.data.toList.drop j) := by
          apply ByteArray.ext; apply Array.ext'; rw [textOf]; simp; rw [List.take_of_length_le (by simp)]
        refine ⟨?_, ?_, ?_⟩
        · rw [HN.out]; rfl
        · rw [← e2]; exact at2_set0 HAT.out _
        · exact (Chg.refl w (fun k => k = q)).set (p := ⟨q, 0, none⟩) (fun _ => rfl) _

theorem bool_cases (b : Bool) : b = true ∨ b = false := by cases b <;> simp
set_option maxRecDepth 100000 in
set_option maxHeartbeats 3200000 in
theorem rinum_bad {w : World} {q : Nat} {s : ByteArray} {bad : Bool} (wd : Int) (h : At w q 42 #[.string s, .bool bad]) (hr : bad = true ∨ rdN wd s = false) (hs : s.size ≤ 65536) :
    Calls Try.prog 17 #[.pointer (some ⟨q, 0, none⟩), .int .i64 wd] w fun e w' => e = .returned (.int .i64 0) ∧ At w' q 42 #[.string s, .bool true] ∧ Chg w w' (fun k => k = q) := by
  have c0 : w.cell? ⟨q, 0, none⟩ = some (.string s) := by rw [At.cell h]; rfl
  have c1 : w.cell? ⟨q, 1, none⟩ = some (.bool bad) := by rw [At.cell h]; rfl
  have f1 := At.frozen h 1
  have fin : At (w.setCell ⟨q, 1, none⟩ (.bool true)) q 42 #[.string s, .bool true] ∧ Chg w (w.setCell ⟨q, 1, none⟩ (.bool true)) (fun k => k = q) := ⟨at2_set1 h _, (Chg.refl w (fun k => k = q)).set (p := ⟨q, 1, none⟩) (fun _ => rfl) _⟩
  have FIN := Lib.hid fin; clear fin h
  cases bad
  · have hr' : rdN wd s = false := by simpa using hr
    clear hr
    by_cases hw : wide wd = true
    · obtain ⟨k, rfl⟩ : ∃ k : Nat, wd = (k : Int) := ⟨wd.toNat, by have := (wide_iff wd).1 hw; omega⟩
      have hk := (wide_iff _).1 hw
      by_cases hl : k ≤ s.size
      · have hd : ¬ dec (s.data.toList.take k) ≤ 9223372036854775807 := fun h9 => by
          have := (rdN_iff (k : Int) s).2 ⟨hw, hl, h9⟩
          rw [this] at hr'; cases hr'
        have hk8 : k = 8 := by
          apply Decidable.byContradiction
          intro hne
          apply hd
          have h1 := dec_lt (s.data.toList.take k)
          have h2 : (s.data.toList.take k).length ≤ 4 := by rw [List.length_take]; omega
          have h3 : 256 ^ (s.data.toList.take k).length ≤ 256 ^ 4 := Nat.pow_le_pow_right (by omega) h2
          have h4 : (256 : Nat) ^ 4 = 4294967296 := by decide
          omega
        subst hk8
        have hq : ¬ (s[0].toNat : Int) ≤ 127 := fun h9 => hd ((head_le s hl).2 h9)
        have q8 : (127 : Int) < (s[0].toNat : Int) := by omega
        have hnl : ¬ (s.size : Int) < 8 := by omega
        have h0s : 0 < s.size := by omega
        clear hd hq hr' hk hw
        go_enter Try.func17, Try.ntmps17
        go_wp2_with fail
        go_ret
        exact ⟨rfl, FIN.out⟩
      · have hnl : (s.size : Int) < (k : Int) := by omega
        clear hr' hw
        rcases hk with h | h | h | h
        all_goals
          (first | (have t1 : ((k : Int) != 1) = true := by (simp; omega)) | (have t1 : ((k : Int) != 1) = false := by (simp; omega)))
          (first | (have t2 : ((k : Int) != 2) = true := by (simp; omega)) | (have t2 : ((k : Int) != 2) = false := by (simp; omega)))
          (first | (have t4 : ((k : Int) != 4) = true := by (simp; omega)) | (have t4 : ((k : Int) != 4) = false := by (simp; omega)))
          (first | (have t8 : ((k : Int) != 8) = true := by (simp; omega)) | (have t8 : ((k : Int) != 8) = false := by (simp; omega)))
          clear h
          go_enter Try.func17, Try.ntmps17
          go_wp2_with fail
          go_ret
          exact ⟨rfl, FIN.out⟩
    · have t1 : (wd != 1) = true := by simp; intro e; exact hw ((wide_iff _).2 (.inl e))
      have t2 : (wd != 2) = true := by simp; intro e; exact hw ((wide_iff _).2 (.inr (.inl e)))
      have t4 : (wd != 4) = true := by simp; intro e; exact hw ((wide_iff _).2 (.inr (.inr (.inl e))))
      have t8 : (wd != 8) = true := by simp; intro e; exact hw ((wide_iff _).2 (.inr (.inr (.inr e))))
      clear hr' hw
      go_enter Try.func17, Try.ntmps17
      go_wp2_with fail
      go_ret
      exact ⟨rfl, FIN.out⟩
  · clear hr
    go_enter Try.func17, Try.ntmps17
    go_wp2_with fail
    go_ret
    exact ⟨rfl, FIN.out⟩

theorem rdN_empty (wd : Int) : rdN wd ⟨#[]⟩ = false := by
  rw [Bool.eq_false_iff]
  intro h
  obtain ⟨h1, h2, _⟩ := (rdN_iff _ _).1 h
  have := (wide_iff wd).1 h1
  have e : (⟨#[]⟩ : ByteArray).size = 0 := rfl
  rw [e] at h2
  omega
theorem rdT_empty (most : Int) : rdT most ⟨#[]⟩ = false := by
  rw [Bool.eq_false_iff]
  intro h
  obtain ⟨h1, _, _⟩ := (rdT_iff _ _).1 h
  have e : (⟨#[]⟩ : ByteArray).size = 0 := rfl
  rw [e] at h1
  omega
/-- the document's Num beside the program's: the same answer, and the same afterwards -/
theorem rinum_any {w : World} {q : Nat} {s : ByteArray} {bad : Bool} (wd : Int) (h : RefAt w q s bad) :
    Calls Try.prog 17 #[.pointer (some ⟨q, 0, none⟩), .int .i64 wd] w fun e w' => e = .returned (.int .i64 (inV wd s)) ∧ RefAt w' q (inS wd s) (inB wd s bad) ∧ Chg w w' (fun k => k = q) := by
  obtain ⟨S, hat, h0, h1, hz⟩ := h
  cases bad
  · obtain rfl := h0 rfl
    by_cases hr : rdN wd S = true
    · unfold inV inS inB
      rw [if_pos hr, if_pos hr, if_pos hr]
      refine (rinum_ok wd hat hr hz).mono ?_
      rintro e w' ⟨rfl, ha, hc⟩
      exact ⟨rfl, ⟨_, ha, fun _ => rfl, (fun h => by cases h), by rw [textOf_size, List.length_drop, ← Lib.size_eq]; omega⟩, hc⟩
    · have hr' : rdN wd S = false := by simpa using hr
      unfold inV inS inB
      rw [if_neg hr, if_neg hr, if_neg hr]
      refine (rinum_bad wd hat (.inr hr') hz).mono ?_
      rintro e w' ⟨rfl, ha, hc⟩
      exact ⟨rfl, ⟨_, ha, (fun h => by cases h), fun _ => rfl, hz⟩, hc⟩
  · obtain rfl := h1 rfl
    have hr : ¬ rdN wd ⟨#[]⟩ = true := by rw [rdN_empty]; decide
    unfold inV inS inB
    rw [if_neg hr, if_neg hr, if_neg hr]
    refine (rinum_bad wd hat (.inl rfl) hz).mono ?_
    rintro e w' ⟨rfl, ha, hc⟩
    exact ⟨rfl, ⟨_, ha, (fun h => by cases h), fun _ => rfl, hz⟩, hc⟩
end Go.Proofs.Ytoijipahcpdhcaa
