/- The contracts of the document's own In: Text and Left. -/
import Derived.Test.YtoijipahcpdhcaaRefB
namespace Go.Proofs.Ytoijipahcpdhcaa
open Go.RowKit Go.Lib Plain

theorem dec2 (s : ByteArray) : dec (s.data.toList.take 2) ≤ 65535 := by
  have h1 := dec_lt (s.data.toList.take 2)
  have h2 : (s.data.toList.take 2).length ≤ 2 := List.length_take_le _ _
  have h3 : 256 ^ (s.data.toList.take 2).length ≤ 256 ^ 2 := Nat.pow_le_pow_right (by omega) h2
  omega
theorem rdN_two (s : ByteArray) : rdN 2 s = decide (2 ≤ s.size) := by
  rw [Bool.eq_iff_iff, rdN_iff]
  have := dec2 s
  have e : (2 : Int).toNat = 2 := rfl
  rw [e]
  have w2 : wide 2 = true := by decide
  simp [w2]; omega

set_option maxRecDepth 100000 in
set_option maxHeartbeats 3200000 in
theorem ritext_ok {w : World} {q : Nat} {s : ByteArray} (most : Int) (h : At w q 42 #[.string s, .bool false]) (hr : rdT most s = true) (hs : s.size ≤ 65536) :
    Calls Try.prog 19 #[.pointer (some ⟨q, 0, none⟩), .int .i64 most] w fun e w' => e = .returned (.string (tV most s)) ∧ At w' q 42 #[.string (tS most s), .bool false] ∧ Chg w w' (fun k => k = q) := by
  obtain ⟨h2, hm, hl⟩ := (rdT_iff _ _).1 hr
  unfold tV tS
  rw [if_pos hr, if_pos hr]
  have hd2 := dec2 s
  obtain ⟨n, hn⟩ : ∃ n, dec (s.data.toList.take 2) = n := ⟨_, rfl⟩
  rw [hn] at hm hl hd2 ⊢
  have c0 : w.cell? ⟨q, 0, none⟩ = some (.string s) := by rw [At.cell h]; rfl
  have HN := Lib.hid hn; have H := Lib.hid h; clear hn h hr
  go_enter Try.func19, Try.ntmps19
  go_wp2_with fail
  refine (rinum_ok 2 H.out (by rw [rdN_two]; simpa using h2) hs).mono ?_
  rintro e w1 ⟨rfl, ha1, hc1⟩
  have e1 : dec (s.data.toList.take (2 : Int).toNat) = n := HN.out
  rw [e1]
  obtain ⟨r, hr⟩ : ∃ r, textOf (s.data.toList.drop (2 : Int).toNat) = r := ⟨_, rfl⟩
  rw [hr] at ha1
  have hrd : r.data.toList = s.data.toList.drop 2 := by rw [← hr, textOf_data]; rfl
  have hrs : r.size = s.size - 2 := by rw [Lib.size_eq, hrd, List.length_drop, ← Lib.size_eq]
  have k0 : w1.cell? ⟨q, 0, none⟩ = some (.string r) := by rw [At.cell ha1]; rfl
  have k1 : w1.cell? ⟨q, 1, none⟩ = some (.bool false) := by rw [At.cell ha1]; rfl
  have f0 := At.frozen ha1 0
  have g1 : (n : Int) ≤ (r.size : Int) := by omega
  have g3 : r.size ≤ 65536 := by omega
  have HRD := Lib.hid hrd; have HA1 := Lib.hid ha1; have HC1 := Lib.hid hc1; clear hrd hrs ha1 hc1 hr e1
  go_wp2_with fail
  go_ret
  have ex1 : r.extract 0 n = textOf ((s.data.toList.drop 2).take n) := by
    apply ByteArray.ext; apply Array.ext'; rw [textOf, ← HRD.out]; simp
  have ex2 : r.extract n r.size = textOf (s.data.toList.drop (2 + n)) := by
    apply ByteArray.ext; apply Array.ext'; rw [textOf, ← List.drop_drop, ← HRD.out]; simp; rw [List.take_of_length_le (by simp)]
  refine ⟨by rw [← ex1]; rfl, ?_, ?_⟩
  · rw [← ex2]; exact at2_set0 HA1.out _
  · exact HC1.out.set (p := ⟨q, 0, none⟩) (fun _ => rfl) _

set_option maxRecDepth 100000 in
set_option maxHeartbeats 3200000 in
theorem ritext_bad {w : World} {q : Nat} {s : ByteArray} {bad : Bool} (most : Int) (h : At w q 42 #[.string s, .bool bad]) (hr : bad = true ∨ rdT most s = false) (hs : s.size ≤ 65536) :
    Calls Try.prog 19 #[.pointer (some ⟨q, 0, none⟩), .int .i64 most] w fun e w' => e = .returned (.string ⟨#[]⟩) ∧ At w' q 42 #[.string s, .bool true] ∧ Chg w w' (fun k => k = q) := by
  have c0 : w.cell? ⟨q, 0, none⟩ = some (.string s) := by rw [At.cell h]; rfl
  by_cases hok : bad = false ∧ 2 ≤ s.size
  · obtain ⟨rfl, h2⟩ := hok
    have hr' : rdT most s = false := by simpa using hr
    have hd2 := dec2 s
    obtain ⟨n, hn⟩ : ∃ n, dec (s.data.toList.take 2) = n := ⟨_, rfl⟩
    rw [hn] at hd2
    have hno : ¬ ((n : Int) ≤ most ∧ n + 2 ≤ s.size) := fun h9 => by
      have := (rdT_iff most s).2 ⟨h2, by rw [hn]; exact h9.1, by rw [hn]; exact h9.2⟩
      rw [this] at hr'; cases hr'
    have HN := Lib.hid hn; have H := Lib.hid h; clear hn h hr hr'
    go_enter Try.func19, Try.ntmps19
    go_wp2_with fail
    refine (rinum_ok 2 H.out (by rw [rdN_two]; simpa using h2) hs).mono ?_
    rintro e w1 ⟨rfl, ha1, hc1⟩
    have e1 : dec (s.data.toList.take (2 : Int).toNat) = n := HN.out
    rw [e1]
    obtain ⟨r, hr⟩ : ∃ r, textOf (s.data.toList.drop (2 : Int).toNat) = r := ⟨_, rfl⟩
    rw [hr] at ha1
    have hrs : r.size = s.size - 2 := by rw [← hr, textOf_size, List.length_drop, ← Lib.size_eq]; rfl
    have k0 : w1.cell? ⟨q, 0, none⟩ = some (.string r) := by rw [At.cell ha1]; rfl
    have k1 : w1.cell? ⟨q, 1, none⟩ = some (.bool false) := by rw [At.cell ha1]; rfl
    have f0 := At.frozen ha1 0; have f1 := At.frozen ha1 1
    have HA1 := Lib.hid ha1; have HC1 := Lib.hid hc1; clear ha1 hc1 hr e1
    have fin : At ((w1.setCell ⟨q, 0, none⟩ (.string s)).setCell ⟨q, 1, none⟩ (.bool true)) q 42 #[.string s, .bool true] ∧ Chg w ((w1.setCell ⟨q, 0, none⟩ (.string s)).setCell ⟨q, 1, none⟩ (.bool true)) (fun k => k = q) :=
      ⟨at2_set1 (at2_set0 HA1.out _) _, (HC1.out.set (p := ⟨q, 0, none⟩) (fun _ => rfl) _).set (p := ⟨q, 1, none⟩) (fun _ => rfl) _⟩
    have FIN := Lib.hid fin; clear fin
    by_cases hm : most < (n : Int)
    · clear hno hrs
      go_wp2_with fail
      go_ret
      exact ⟨rfl, FIN.out⟩
    · have g1 : (r.size : Int) < (n : Int) := by
        have : ¬ n + 2 ≤ s.size := fun h9 => hno ⟨by omega, h9⟩
        omega
      have g2 : (n : Int) ≤ most := by omega
      clear hno hrs hm
      go_wp2_with fail
      go_ret
      exact ⟨rfl, FIN.out⟩
  · have H := Lib.hid h; clear h
    have hb : bad = true ∨ rdN 2 s = false := by
      cases bad
      · right; rw [rdN_two]; simp; exact Nat.lt_of_not_le (fun h9 => hok ⟨rfl, h9⟩)
      · exact .inl rfl
    have HB := Lib.hid hb; clear hb hok hr
    go_enter Try.func19, Try.ntmps19
    go_wp2_with fail
    refine (rinum_bad 2 H.out HB.out hs).mono ?_
    rintro e w1 ⟨rfl, ha1, hc1⟩
    have k0 : w1.cell? ⟨q, 0, none⟩ = some (.string s) := by rw [At.cell ha1]; rfl
    have k1 : w1.cell? ⟨q, 1, none⟩ = some (.bool true) := by rw [At.cell ha1]; rfl
    have f0 := At.frozen ha1 0; have f1 := At.frozen ha1 1
    have fin : At ((w1.setCell ⟨q, 0, none⟩ (.string s)).setCell ⟨q, 1, none⟩ (.bool true)) q 42 #[.string s, .bool true] ∧ Chg w ((w1.setCell ⟨q, 0, none⟩ (.string s)).setCell ⟨q, 1, none⟩ (.bool true)) (fun k => k = q) :=
      ⟨at2_set1 (at2_set0 ha1 _) _, (hc1.set (p := ⟨q, 0, none⟩) (fun _ => rfl) _).set (p := ⟨q, 1, none⟩) (fun _ => rfl) _⟩
    have FIN := Lib.hid fin; clear fin ha1 hc1
    go_wp2_with fail
    go_ret
    exact ⟨rfl, FIN.out⟩
theorem ritext_any {w : World} {q : Nat} {s : ByteArray} {bad : Bool} (most : Int) (h : RefAt w q s bad) :
    Calls Try.prog 19 #[.pointer (some ⟨q, 0, none⟩), .int .i64 most] w fun e w' => e = .returned (.string (tV most s)) ∧ RefAt w' q (tS most s) (tB most s bad) ∧ Chg w w' (fun k => k = q) := by
  obtain ⟨S, hat, h0, h1, hz⟩ := h
  cases bad
  · obtain rfl := h0 rfl
    by_cases hr : rdT most S = true
    · unfold tB
      rw [if_pos hr]
      refine (ritext_ok most hat hr hz).mono ?_
      rintro e w' ⟨rfl, ha, hc⟩
      exact ⟨rfl, ⟨_, ha, fun _ => rfl, (fun h => by cases h), Nat.le_trans (tS_size _ _) hz⟩, hc⟩
    · have hr' : rdT most S = false := by simpa using hr
      unfold tV tS tB
      rw [if_neg hr, if_neg hr, if_neg hr]
      refine (ritext_bad most hat (.inr hr') hz).mono ?_
      rintro e w' ⟨rfl, ha, hc⟩
      exact ⟨rfl, ⟨_, ha, (fun h => by cases h), fun _ => rfl, hz⟩, hc⟩
  · obtain rfl := h1 rfl
    have hr : ¬ rdT most ⟨#[]⟩ = true := by rw [rdT_empty]; decide
    unfold tV tS tB
    rw [if_neg hr, if_neg hr, if_neg hr]
    refine (ritext_bad most hat (.inl rfl) hz).mono ?_
    rintro e w' ⟨rfl, ha, hc⟩
    exact ⟨rfl, ⟨_, ha, (fun h => by cases h), fun _ => rfl, hz⟩, hc⟩
set_option maxHeartbeats 400000 in
theorem rleft_any {w : World} {q : Nat} {s : ByteArray} {bad : Bool} (h : RefAt w q s bad) : Calls Try.prog 22 #[.pointer (some ⟨q, 0, none⟩)] w fun e w' => e = .returned (.int .i64 (s.size : Int)) ∧ w = w' := by
  obtain ⟨S, hat, h0, h1, hz⟩ := h
  have c0 : w.cell? ⟨q, 0, none⟩ = some (.string S) := by rw [At.cell hat]; rfl
  have c1 : w.cell? ⟨q, 1, none⟩ = some (.bool bad) := by rw [At.cell hat]; rfl
  clear hat
  cases bad
  · obtain rfl := h0 rfl
    clear h0 h1
    go_enter Try.func22, Try.ntmps22
    go_wp2
    go_ret
    exact ⟨rfl, rfl⟩
  · obtain rfl := h1 rfl
    clear h0 h1
    go_enter Try.func22, Try.ntmps22
    go_wp2
    go_ret
    exact ⟨rfl, rfl⟩
end Go.Proofs.Ytoijipahcpdhcaa
