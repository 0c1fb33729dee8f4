/- The contracts of strings.Clone and of (*pack.In).Text. -/
import Derived.Test.YtoijipahcpdhcaaInA
import Derived.Test.YtoijipahcpdhcaaShelf
namespace Go.Proofs.Ytoijipahcpdhcaa
open Go.RowKit Go.Lib Plain

set_option maxHeartbeats 400000 in
theorem clone_any (s : ByteArray) (w : World) (h : s.size ≤ 281474976710656) : Calls Try.prog 33 #[.string s] w fun e w' => e = .returned (.string s) ∧ Below w.heap.size w w' := by
  go_enter Try.func33, Try.ntmps33
  go_wp2_with (go_at_call 36; refine (Try.stringslite_Clone s w h).mono ?_; rintro e w' ⟨rfl, hb⟩)
  go_ret
  exact ⟨rfl, hb⟩
theorem InAt.chg {w w' : World} {S : Nat → Prop} {p : Nat} {s : ByteArray} {bad : Bool} (h : InAt w p s bad) (hc : Chg w w' S) (hp : ¬ S p) : InAt w' p s bad := At.chg h hc hp
theorem Took.chg {w w' : World} {p : Nat} {s : ByteArray} {bad : Bool} (h : Took w p s bad w') : Chg w w' (fun k => k = p) := h.2
theorem Took.trans {w w1 w2 : World} {p : Nat} {s s2 : ByteArray} {bad bad2 : Bool} (h : Took w p s bad w1) (h2 : Took w1 p s2 bad2 w2) : Took w p s2 bad2 w2 := ⟨h2.1, chg_eq h.2 h2.2⟩

set_option maxRecDepth 100000 in
set_option maxHeartbeats 1600000 in
theorem itext_ok {w : World} {p : Nat} {s : ByteArray} {bad : Bool} (most : Int) (n : Nat) (h : InAt w p s bad) (hs : s.size ≤ 281474976710656) (h2 : 2 ≤ s.size) (hn : dec (s.data.toList.take 2) = n) (hm : (n : Int) ≤ most) (hl : n + 2 ≤ s.size) :
    Calls Try.prog 18 #[.pointer (some ⟨p, 0, none⟩), .int .i64 most] w fun e w' => e = .returned (.string (textOf ((s.data.toList.drop 2).take n))) ∧ Took w p (textOf (s.data.toList.drop (2 + n))) bad w' := by
  have hn9 : n ≤ 65535 := by have := dec_lt (s.data.toList.take 2); rw [hn] at this; have e : (s.data.toList.take 2).length ≤ 2 := List.length_take_le _ _; have e2 : 256 ^ (s.data.toList.take 2).length ≤ 256 ^ 2 := Nat.pow_le_pow_right (by omega) e; omega
  have H := Lib.hid h; have HN := Lib.hid hn; clear h hn
  have hsl : s.data.toList.length = s.size := by simp
  have HSL := Lib.hid hsl; clear hsl
  go_enter Try.func18, Try.ntmps18
  go_wp2_with fail
  refine (inum_ok 2 H.out (by decide) h2 (by unfold maxLen; omega) (by show dec (s.data.toList.take 2) ≤ _; rw [HN.out]; omega)).mono ?_
  rintro e w1 ⟨rfl, ht1⟩
  have e1 : dec (s.data.toList.take (2 : Int).toNat) = n := HN.out
  rw [e1]
  obtain ⟨r, hr⟩ : ∃ r, textOf (s.data.toList.drop (2 : Int).toNat) = r := ⟨_, rfl⟩
  rw [hr] at ht1
  have hrd : r.data.toList = s.data.toList.drop 2 := by rw [← hr, textOf_data]; rfl
  have hrs : r.size = s.size - 2 := by have := congrArg List.length hrd; rw [List.length_drop, HSL.out] at this; simpa using this
  have c0 := ht1.1.c0; have f0 := At.frozen ht1.1 0
  have HR := Lib.hid hrd; have HT1 := Lib.hid ht1; clear hrd ht1 hr e1
  have hle : n ≤ r.size := by omega
  have hr48 : r.size ≤ 281474976710656 := by omega
  have HRS := Lib.hid hrs; clear hrs
  have hnl : ¬ (r.size : Int) < (n : Int) := by omega
  have hnm : ¬ most < (n : Int) := by omega
  by_cases h0 : n = 0
  · subst h0
    go_wp2_with (first | (go_at_call 21; refine (left_some HT1.out.1).mono ?_; rintro e w' ⟨rfl, rfl⟩))
    go_ret
    exact ⟨rfl, by have e : textOf (s.data.toList.drop 2) = r := (by rw [← HR.out, textOf_of]); simpa [e] using HT1.out⟩
  · go_wp2_with (first | (go_at_call 21; refine (left_some HT1.out.1).mono ?_; rintro e w' ⟨rfl, rfl⟩) | (go_at_call 33; refine (clone_any _ _ (by rw [ByteArray.size_extract]; omega)).mono ?_; rintro e w2 ⟨rfl, hb⟩; have k0 : w2.cell? ⟨p, 0, none⟩ = some (.string r) := (by rw [hb.cell (p := ⟨p, 0, none⟩) (At.lt HT1.out.1)]; exact c0); have k1 : w2.frozen? ⟨p, 0, none⟩ = false := (by rw [hb.frozen (p := ⟨p, 0, none⟩) (At.lt HT1.out.1)]; exact f0)))
    go_ret
    have hin2 : InAt w2 p r bad := At.below HT1.out.1 hb (At.lt HT1.out.1)
    have ex1 : r.extract 0 n = textOf ((s.data.toList.drop 2).take n) := by
      apply ByteArray.ext; apply Array.ext'; rw [textOf, ← HR.out]; simp
    have ex2 : r.extract n r.size = textOf (s.data.toList.drop (2 + n)) := by
      apply ByteArray.ext; apply Array.ext'; rw [textOf, ← List.drop_drop, ← HR.out]; simp; rw [List.take_of_length_le (by simp)]
    refine ⟨by rw [← ex1]; rfl, ?_, ?_⟩
    · rw [← ex2]; exact at2_set0 hin2 _
    · exact (HT1.out.2.trans (Chg.ofBelow hb (fun k => k = p)) (fun _ _ e => e)).set (p := ⟨p, 0, none⟩) (fun _ => rfl) _

set_option maxRecDepth 100000 in
set_option maxHeartbeats 1600000 in
theorem itext_bad {w : World} {p : Nat} {s : ByteArray} {bad : Bool} (most : Int) (h : InAt w p s bad) (hs : s.size ≤ 281474976710656) (hno : ¬ (2 ≤ s.size ∧ (dec (s.data.toList.take 2) : Int) ≤ most ∧ dec (s.data.toList.take 2) + 2 ≤ s.size)) :
    Calls Try.prog 18 #[.pointer (some ⟨p, 0, none⟩), .int .i64 most] w fun e w' => e = .returned (.string ⟨#[]⟩) ∧ Took w p ⟨#[]⟩ true w' := by
  by_cases h2 : 2 ≤ s.size
  · obtain ⟨n, hn⟩ : ∃ n, dec (s.data.toList.take 2) = n := ⟨_, rfl⟩
    rw [hn] at hno
    have hn9 : n ≤ 65535 := by have := dec_lt (s.data.toList.take 2); rw [hn] at this; have e : (s.data.toList.take 2).length ≤ 2 := List.length_take_le _ _; have e2 : 256 ^ (s.data.toList.take 2).length ≤ 256 ^ 2 := Nat.pow_le_pow_right (by omega) e; omega
    have H := Lib.hid h; have HN := Lib.hid hn; clear h hn
    have hsl : s.data.toList.length = s.size := by simp
    have HSL := Lib.hid hsl; clear hsl
    go_enter Try.func18, Try.ntmps18
    go_wp2_with fail
    refine (inum_ok 2 H.out (by decide) h2 (by unfold maxLen; omega) (by show dec (s.data.toList.take 2) ≤ _; rw [HN.out]; omega)).mono ?_
    rintro e w1 ⟨rfl, ht1⟩
    have e1 : dec (s.data.toList.take (2 : Int).toNat) = n := HN.out
    rw [e1]
    obtain ⟨r, hr⟩ : ∃ r, textOf (s.data.toList.drop (2 : Int).toNat) = r := ⟨_, rfl⟩
    rw [hr] at ht1
    have hrd : r.data.toList = s.data.toList.drop 2 := by rw [← hr, textOf_data]; rfl
    have hrs : r.size = s.size - 2 := by have := congrArg List.length hrd; rw [List.length_drop, HSL.out] at this; simpa using this
    have HR := Lib.hid hrd; have HT1 := Lib.hid ht1; clear hrd ht1 hr e1
    by_cases hm : most < (n : Int)
    · clear hno hrs
      go_wp2_with (first | (go_at_call 31; refine (spoil_some HT1.out.1).mono ?_; rintro e w' ⟨rfl, ht⟩))
      go_ret
      exact ⟨rfl, HT1.out.trans ht⟩
    · have hlt : (r.size : Int) < (n : Int) := by
        have : ¬ (n + 2 ≤ s.size) := fun h9 => hno ⟨h2, by omega, h9⟩
        omega
      clear hno hrs
      go_wp2_with (first | (go_at_call 21; refine (left_some HT1.out.1).mono ?_; rintro e w' ⟨rfl, rfl⟩) | (go_at_call 31; refine (spoil_some HT1.out.1).mono ?_; rintro e w' ⟨rfl, ht⟩))
      go_ret
      exact ⟨rfl, HT1.out.trans ht⟩
  · have H := Lib.hid h; clear h hno
    go_enter Try.func18, Try.ntmps18
    go_wp2_with fail
    refine (inum_bad 2 H.out (by unfold maxLen; omega) (by rintro ⟨_, h9, _⟩; exact h2 h9)).mono ?_
    rintro e w1 ⟨rfl, ht1⟩
    have HT1 := Lib.hid ht1; clear ht1
    by_cases hm : most < 0
    · go_wp2_with (first | (go_at_call 31; refine (spoil_some HT1.out.1).mono ?_; rintro e w' ⟨rfl, ht⟩))
      go_ret
      exact ⟨rfl, HT1.out.trans ht⟩
    · go_wp2_with (first | (go_at_call 21; refine (left_some HT1.out.1).mono ?_; rintro e w' ⟨rfl, rfl⟩))
      go_ret
      exact ⟨rfl, HT1.out⟩
set_option maxHeartbeats 400000 in
theorem itext_nil (most : Int) (w : World) (h : 0 ≤ most) : Calls Try.prog 18 #[.pointer none, .int .i64 most] w fun e w' => e = .returned (.string ⟨#[]⟩) ∧ w = w' := by
  go_enter Try.func18, Try.ntmps18
  go_wp2_with (first | (go_at_call 16; refine (inum_nil 2 _ (by decide)).mono ?_; rintro e w' ⟨rfl, rfl⟩) | (go_at_call 21; refine (left_nil _).mono ?_; rintro e w' ⟨rfl, rfl⟩))
  go_ret
  exact ⟨rfl, rfl⟩
end Go.Proofs.Ytoijipahcpdhcaa
