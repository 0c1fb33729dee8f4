/- The contracts of (*pack.In).spoil, Left, Bad and End, of pack.number, and of (*pack.In).Num. -/
import Derived.Test.YtdgafpkigajgeaaOutC
import Derived.Laws.BitsAllLaws
namespace Go.Proofs.Ytdgafpkigajgeaa
open Go.RowKit Go.Lib Plain

/-- an In at block p: these bytes are left; whether it is bad -/
def InAt (w : World) (p : Nat) (s : ByteArray) (bad : Bool) : Prop := At w p 76 #[.string s, .bool bad]
/-- behind a call that read: the In is so now, and nothing else has turned -/
def Took (w : World) (p : Nat) (s : ByteArray) (bad : Bool) (w' : World) : Prop := InAt w' p s bad ∧ Chg w w' (fun k => k = p)
theorem InAt.c0 {w : World} {p : Nat} {s : ByteArray} {bad : Bool} (h : InAt w p s bad) : w.cell? ⟨p, 0, none⟩ = some (.string s) := by rw [At.cell h]; rfl
theorem InAt.c1 {w : World} {p : Nat} {s : ByteArray} {bad : Bool} (h : InAt w p s bad) : w.cell? ⟨p, 1, none⟩ = some (.bool bad) := by rw [At.cell h]; rfl

theorem at2_set0 {w : World} {g : Nat} {t : TypeId} {a b : Value} (h : At w g t #[a, b]) (u : Value) : At (w.setCell ⟨g, 0, none⟩ u) g t #[u, b] := by
  have := At.set h 0 u; simpa using this
theorem at2_set1 {w : World} {g : Nat} {t : TypeId} {a b : Value} (h : At w g t #[a, b]) (u : Value) : At (w.setCell ⟨g, 1, none⟩ u) g t #[a, u] := by
  have := At.set h 1 u; simpa using this
theorem spoiled {w : World} {p : Nat} {s : ByteArray} {bad : Bool} (h : InAt w p s bad) : Took w p ⟨#[]⟩ true ((w.setCell ⟨p, 0, none⟩ (.string ⟨#[]⟩)).setCell ⟨p, 1, none⟩ (.bool true)) := by
  exact ⟨at2_set1 (at2_set0 h _) _, ((Chg.refl w (fun k => k = p)).set (p := ⟨p, 0, none⟩) (fun _ => rfl) _).set (p := ⟨p, 1, none⟩) (fun _ => rfl) _⟩

set_option maxHeartbeats 400000 in
theorem spoil_some {w : World} {p : Nat} {s : ByteArray} {bad : Bool} (h : InAt w p s bad) : Calls Try.prog 40 #[.pointer (some ⟨p, 0, none⟩)] w fun e w' => e = .returned (.tuple #[]) ∧ Took w p ⟨#[]⟩ true w' := by
  have c0 := h.c0; have c1 := h.c1
  have f0 := At.frozen h 0; have f1 := At.frozen h 1
  have H := Lib.hid h; clear h
  go_enter Try.func40, Try.ntmps40
  go_wp2
  go_end0
  exact ⟨rfl, spoiled H.out⟩
set_option maxHeartbeats 400000 in
theorem spoil_nil (w : World) : Calls Try.prog 40 #[.pointer none] w fun e w' => e = .returned (.tuple #[]) ∧ w = w' := by
  go_enter Try.func40, Try.ntmps40
  go_wp2
  go_end0
  exact ⟨rfl, rfl⟩
set_option maxHeartbeats 400000 in
theorem left_some {w : World} {p : Nat} {s : ByteArray} {bad : Bool} (h : InAt w p s bad) : Calls Try.prog 32 #[.pointer (some ⟨p, 0, none⟩)] w fun e w' => e = .returned (.int .i64 (s.size : Int)) ∧ w = w' := by
  have c0 := h.c0
  have H := Lib.hid h; clear h
  go_enter Try.func32, Try.ntmps32
  go_wp2
  go_ret
  exact ⟨rfl, rfl⟩
set_option maxHeartbeats 400000 in
theorem left_nil (w : World) : Calls Try.prog 32 #[.pointer none] w fun e w' => e = .returned (.int .i64 0) ∧ w = w' := by
  go_enter Try.func32, Try.ntmps32
  go_wp2
  go_ret
  exact ⟨rfl, rfl⟩
set_option maxHeartbeats 400000 in
theorem bad_some {w : World} {p : Nat} {s : ByteArray} {bad : Bool} (h : InAt w p s bad) : Calls Try.prog 31 #[.pointer (some ⟨p, 0, none⟩)] w fun e w' => e = .returned (.bool bad) ∧ w = w' := by
  have c1 := h.c1
  have H := Lib.hid h; clear h
  go_enter Try.func31, Try.ntmps31
  go_wp2
  go_ret
  exact ⟨rfl, rfl⟩
set_option maxHeartbeats 400000 in
theorem bad_nil (w : World) : Calls Try.prog 31 #[.pointer none] w fun e w' => e = .returned (.bool true) ∧ w = w' := by
  go_enter Try.func31, Try.ntmps31
  go_wp2
  go_ret
  exact ⟨rfl, rfl⟩
theorem or_byte (n : Nat) (b : UInt8) (h : n < 256 ^ 7) : bits .or .u64 ((n : Int) * 256) (b.toNat : Int) = ((n * 256 + b.toNat : Nat) : Int) := by
  have hb : b.toNat < 2 ^ 8 := b.toNat_lt
  have e : ((n : Int) * 256) = ((n * 256 : Nat) : Int) := by simp
  rw [e, u64_or_nat _ _ (by omega) (by omega)]
  have h1 : n * 256 + b.toNat = n * 256 ||| b.toNat := by
    have := Nat.two_pow_add_eq_or_of_lt hb n
    rw [Nat.mul_comm n 256]; exact this
  rw [h1]
theorem take_snoc (s : ByteArray) (k : Nat) (h : k < s.size) : s.data.toList.take (k + 1) = s.data.toList.take k ++ [s[k]] := by
  rw [List.take_succ_eq_append_getElem (by simpa using h)]; rfl
theorem ret_u64 {a b : Int} (h : a = b) : Ending.returned (.int .u64 a) = .returned (.int .u64 b) := by rw [h]

set_option maxHeartbeats 400000 in
theorem number_any (s : ByteArray) (w : World) (hs : s.size ≤ 8) : Calls Try.prog 41 #[.string s] w fun e w' => e = .returned (.int .u64 (dec s.data.toList : Int)) ∧ w = w' := by
  go_enter Try.func41, Try.ntmps41
  go_wp2
  go_loopg [3, 7] s.size (fun g sn si wx => w = wx ∧ ∃ k : Nat, k ≤ s.size ∧ g = s.size - k ∧ si = .int .i64 (k : Int) ∧ sn = .int .u64 (dec (s.data.toList.take k) : Int))
  case atStart => exact ⟨rfl, 0, Nat.zero_le _, rfl, rfl, rfl⟩
  case round =>
    obtain ⟨rfl, k, hk, hg, rfl, rfl⟩ := hrel
    have HG := Lib.hid hg; clear hg
    by_cases hlt : k < s.size
    · have hst := congrArg dec (take_snoc s k hlt)
      rw [dec_snoc] at hst
      have hd : dec (s.data.toList.take k) < 256 ^ 7 := by
        refine Nat.lt_of_lt_of_le (dec_lt _) (Nat.pow_le_pow_right (by omega) ?_)
        rw [List.length_take]; omega
      have hor := or_byte (dec (s.data.toList.take k)) s[k] hd
      have HST := Lib.hid hst; have HD := Lib.hid hd; clear hst
      generalize dec (s.data.toList.take k) = n at *
      have hwr : IntKind.u64.wrap ((n : Int) * 256) = (n : Int) * 256 := IntWalk.u64_in _ (by omega)
      have hb8 : s[k].toNat < 256 := s[k].toNat_lt
      have hwb : IntKind.u64.wrap (s[k].toNat : Int) = (s[k].toNat : Int) := IntWalk.u64_in _ (by omega)
      clear hd
      go_wp2
      go_roundg (s.size - (k + 1))
      case measure => have := HG.out; omega
      case rel => exact ⟨rfl, k + 1, by omega, rfl, by go_num, by rw [HST.out]; go_num⟩
    · go_wp2
      go_ret
      exact ⟨ret_u64 (by rw [List.take_of_length_le (by simp; omega)]), rfl⟩

set_option maxRecDepth 100000 in
set_option maxHeartbeats 1000000 in
theorem inum_ok {w : World} {p : Nat} {s : ByteArray} {bad : Bool} (wd : Int) (h : InAt w p s bad) (hw : wide wd = true) (hl : wd.toNat ≤ s.size) (hs : s.size ≤ maxLen) (hd : dec (s.data.toList.take wd.toNat) ≤ 9223372036854775807) :
    Calls Try.prog 30 #[.pointer (some ⟨p, 0, none⟩), .int .i64 wd] w fun e w' => e = .returned (.int .i64 (dec (s.data.toList.take wd.toNat) : Int)) ∧ Took w p (textOf (s.data.toList.drop wd.toNat)) bad w' := by
  unfold maxLen at hs
  obtain ⟨k, rfl⟩ : ∃ k : Nat, wd = (k : Int) := ⟨wd.toNat, by have := (wide_iff wd).1 hw; omega⟩
  have hk : k ≤ 8 := by have := (wide_iff _).1 hw; omega
  rw [Int.toNat_natCast] at hl hd ⊢
  obtain ⟨n, hn⟩ : ∃ n, dec (s.data.toList.take k) = n := ⟨_, rfl⟩
  rw [hn] at hd ⊢
  have HN := Lib.hid hn; clear hn
  have c0 := h.c0; have f0 := At.frozen h 0
  have H := Lib.hid h; have HW := Lib.hid hw; have HD := Lib.hid hd; clear h hw hd
  have hnl : ¬ (s.size : Int) < (k : Int) := by omega
  go_enter Try.func30, Try.ntmps30
  go_wp2_with (first | (go_at_call 36; refine (isWidth_yes _ _ HW.out).mono ?_; rintro e w' ⟨rfl, rfl⟩) | (go_at_call 32; refine (left_some H.out).mono ?_; rintro e w' ⟨rfl, rfl⟩))
  refine (number_any _ _ (by rw [ByteArray.size_extract]; omega)).mono ?_
  rintro e w' ⟨rfl, rfl⟩
  have e1 : (s.extract 0 k).data.toList = s.data.toList.take k := by simp
  rw [e1, HN.out]
  have e2 : s.extract k s.size = textOf (s.data.toList.drop k) := by
    apply ByteArray.ext; apply Array.ext'; rw [textOf]; simp; rw [List.take_of_length_le (by simp)]
  have hd := HD.out
  have HE := Lib.hid e2; clear e1 e2 HD
  go_wp2_with fail
  go_ret
  refine ⟨?_, ?_, ?_⟩
  · rfl
  · rw [← HE.out]; exact at2_set0 H.out _
  · exact (Chg.refl w (fun k => k = p)).set (p := ⟨p, 0, none⟩) (fun _ => rfl) _
theorem chg_eq {a b c : World} {p : Nat} (h : Chg a b (fun k => k = p)) (h2 : Chg b c (fun k => k = p)) : Chg a c (fun k => k = p) := h.trans h2 (fun _ _ e => e)
set_option maxRecDepth 100000 in
set_option maxHeartbeats 1000000 in
theorem inum_bad {w : World} {p : Nat} {s : ByteArray} {bad : Bool} (wd : Int) (h : InAt w p s bad) (hs : s.size ≤ maxLen) (hd : ¬ (wide wd = true ∧ wd.toNat ≤ s.size ∧ dec (s.data.toList.take wd.toNat) ≤ 9223372036854775807)) :
    Calls Try.prog 30 #[.pointer (some ⟨p, 0, none⟩), .int .i64 wd] w fun e w' => e = .returned (.int .i64 0) ∧ Took w p ⟨#[]⟩ true w' := by
  unfold maxLen at hs
  by_cases hw : wide wd = true
  · obtain ⟨k, rfl⟩ : ∃ k : Nat, wd = (k : Int) := ⟨wd.toNat, by have := (wide_iff wd).1 hw; omega⟩
    have hk : k ≤ 8 := by have := (wide_iff _).1 hw; omega
    rw [Int.toNat_natCast] at hd
    by_cases hl : k ≤ s.size
    · have hd' : 9223372036854775807 < dec (s.data.toList.take k) := by
        apply Nat.lt_of_not_le; intro h9; exact hd ⟨hw, hl, h9⟩
      have c0 := h.c0
      have H := Lib.hid h; have HW := Lib.hid hw; have HD := Lib.hid hd'; clear h hw hd' hd
      have hnl : ¬ (s.size : Int) < (k : Int) := by omega
      go_enter Try.func30, Try.ntmps30
      go_wp2_with (first | (go_at_call 36; refine (isWidth_yes _ _ HW.out).mono ?_; rintro e w' ⟨rfl, rfl⟩) | (go_at_call 32; refine (left_some H.out).mono ?_; rintro e w' ⟨rfl, rfl⟩))
      refine (number_any _ _ (by rw [ByteArray.size_extract]; omega)).mono ?_
      rintro e w' ⟨rfl, rfl⟩
      have e1 : (s.extract 0 k).data.toList = s.data.toList.take k := by simp
      rw [e1]
      have hd := HD.out
      clear e1 HD
      generalize dec (s.data.toList.take k) = n at hd ⊢
      go_wp2_with (go_at_call 40; refine (spoil_some H.out).mono ?_; rintro e w' ⟨rfl, ht⟩)
      go_ret
      exact ⟨rfl, ht⟩
    · have H := Lib.hid h; have HW := Lib.hid hw; clear h hw hd
      have hnl : (s.size : Int) < (k : Int) := by omega
      go_enter Try.func30, Try.ntmps30
      go_wp2_with (first | (go_at_call 36; refine (isWidth_yes _ _ HW.out).mono ?_; rintro e w' ⟨rfl, rfl⟩) | (go_at_call 32; refine (left_some H.out).mono ?_; rintro e w' ⟨rfl, rfl⟩) | (go_at_call 40; refine (spoil_some H.out).mono ?_; rintro e w' ⟨rfl, ht⟩))
      go_ret
      exact ⟨rfl, ht⟩
  · have hw' : wide wd = false := by simpa using hw
    have H := Lib.hid h; have HW := Lib.hid hw'; clear h hw hw' hd
    go_enter Try.func30, Try.ntmps30
    go_wp2_with (first | (go_at_call 36; refine (isWidth_no _ _ HW.out).mono ?_; rintro e w' ⟨rfl, rfl⟩) | (go_at_call 40; refine (spoil_some H.out).mono ?_; rintro e w' ⟨rfl, ht⟩))
    go_ret
    exact ⟨rfl, ht⟩
set_option maxHeartbeats 400000 in
theorem inum_nil (wd : Int) (w : World) (h0 : 0 < wd) :
    Calls Try.prog 30 #[.pointer none, .int .i64 wd] w fun e w' => e = .returned (.int .i64 0) ∧ w = w' := by
  by_cases hw : wide wd = true
  · have HW := Lib.hid hw; clear hw
    go_enter Try.func30, Try.ntmps30
    go_wp2_with (first | (go_at_call 36; refine (isWidth_yes _ _ HW.out).mono ?_; rintro e w' ⟨rfl, rfl⟩) | (go_at_call 32; refine (left_nil _).mono ?_; rintro e w' ⟨rfl, rfl⟩) | (go_at_call 40; refine (spoil_nil _).mono ?_; rintro e w' ⟨rfl, rfl⟩))
    go_ret
    exact ⟨rfl, rfl⟩
  · have hw' : wide wd = false := by simpa using hw
    have HW := Lib.hid hw'; clear hw hw'
    go_enter Try.func30, Try.ntmps30
    go_wp2_with (first | (go_at_call 36; refine (isWidth_no _ _ HW.out).mono ?_; rintro e w' ⟨rfl, rfl⟩) | (go_at_call 40; refine (spoil_nil _).mono ?_; rintro e w' ⟨rfl, rfl⟩))
    go_ret
    exact ⟨rfl, rfl⟩
end Go.Proofs.Ytdgafpkigajgeaa
