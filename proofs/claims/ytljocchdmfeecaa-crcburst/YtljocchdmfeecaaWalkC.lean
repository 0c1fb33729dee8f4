/- The contracts of crc.Of, crc.Is and of the anchor 'awake' of the statements: each call returns what the plain mathematics says. -/
import Derived.Test.YtljocchdmfeecaaWalkB
namespace Go.Proofs.Ytljocchdmfeecaa
open Go.RowKit Go.Lib Plain

def flat : List ByteArray → List UInt8
  | [] => []
  | s :: r => s.data.toList ++ flat r
theorem flat_snoc (l : List ByteArray) (s : ByteArray) : flat (l ++ [s]) = flat l ++ s.data.toList := by
  induction l with
  | nil => simp [flat]
  | cons a l ih => simp [flat, ih]
theorem ss_take (ss : List ByteArray) (j : Nat) (h : j < ss.length) : ss.take (j + 1) = ss.take j ++ [ss.getD j ByteArray.empty] := by
  rw [List.take_succ_eq_append_getElem h]; simp [h]

set_option maxHeartbeats 400000 in
theorem of_list (ss : List ByteArray) (b off cap : Nat) (w : World) (hc : ∀ i, i < ss.length → w.cell? ⟨b, off + i, none⟩ = some (.string (ss.getD i ByteArray.empty)))
    (hs : ∀ s ∈ ss, s.size ≤ maxLen) (hl : ss.length < 9223372036854775807) :
    Calls Try.prog 9 #[.slice (some ⟨b, off, none⟩) ss.length cap] w fun e w' => e = .returned (.int .u32 (N (crc (flat ss)))) ∧ w = w' := by
  have HC := Lib.hid hc; have HB := Lib.hid hs; clear hc hs
  go_enter Try.func9, Try.ntmps9
  go_wp2
  go_loopg [3, 8] ss.length (fun g sr si wx => w = wx ∧ ∃ j : Nat, j ≤ ss.length ∧ g = ss.length - j ∧ si = .int .i64 (j : Int) ∧ sr = .int .u32 (N (crc (flat (ss.take j)))))
  case atStart => exact ⟨rfl, 0, Nat.zero_le _, rfl, rfl, by rw [List.take_zero, show N (crc (flat [])) = 0 from by decide]⟩
  case round =>
    obtain ⟨rfl, j, hj, hg, rfl, rfl⟩ := hrel
    have HG := Lib.hid hg; clear hg
    by_cases hlt : j < ss.length
    · have hcell := HC.out j hlt
      have hsz : (ss.getD j ByteArray.empty).size ≤ maxLen := HB.out _ (by simp [hlt])
      have hst : crc (flat (ss.take (j + 1))) = more (crc (flat (ss.take j))) (ss.getD j ByteArray.empty).data.toList := by
        rw [ss_take ss j hlt, flat_snoc, crc_append]
      have HST := Lib.hid hst; clear hst
      generalize ss.getD j ByteArray.empty = s at hcell hsz HST
      go_wp2_with (go_at_call 11; refine (more_any _ (crc (flat (ss.take j))) s _ rfl hsz).mono ?_; rintro e w' ⟨rfl, rfl⟩)
      go_roundg (ss.length - (j + 1))
      case measure => have := HG.out; omega
      case rel => exact ⟨rfl, j + 1, by omega, rfl, by go_num, by rw [HST.out]⟩
    · go_wp2
      go_ret
      exact ⟨ret_u32 (by rw [List.take_of_length_le (by omega)]), rfl⟩

set_option maxHeartbeats 400000 in
theorem of_nil (w : World) :
    Calls Try.prog 9 #[.slice none 0 0] w fun e w' => e = .returned (.int .u32 0) ∧ w = w' := by
  go_enter Try.func9, Try.ntmps9
  go_wp2
  go_loopg [3, 8] 0 (fun g sr si wx => w = wx ∧ si = .int .i64 0 ∧ sr = .int .u32 0)
  case atStart => exact ⟨rfl, rfl, rfl⟩
  case round =>
    obtain ⟨rfl, rfl, rfl⟩ := hrel
    go_wp2
    go_ret
    exact ⟨rfl, rfl⟩

theorem of_one (s : ByteArray) (b : Nat) (w : World) (hc : w.cell? ⟨b, 0, none⟩ = some (.string s)) (hs : s.size ≤ maxLen) :
    Calls Try.prog 9 #[.slice (some ⟨b, 0, none⟩) 1 1] w fun e w' => e = .returned (.int .u32 (N (crc s.data.toList))) ∧ w = w' := by
  have := of_list [s] b 0 1 w (by intro i hi; simp at hi; subst hi; simpa using hc) (by intro t ht; simp at ht; subst ht; exact hs) (by simp)
  simpa [flat] using this

theorem of_three (s t u : ByteArray) (b : Nat) (w : World) (h0 : w.cell? ⟨b, 0, none⟩ = some (.string s)) (h1 : w.cell? ⟨b, 1, none⟩ = some (.string t)) (h2 : w.cell? ⟨b, 2, none⟩ = some (.string u))
    (hs : s.size ≤ maxLen) (ht : t.size ≤ maxLen) (hu : u.size ≤ maxLen) :
    Calls Try.prog 9 #[.slice (some ⟨b, 0, none⟩) 3 3] w fun e w' => e = .returned (.int .u32 (N (crc (s.data.toList ++ (t.data.toList ++ u.data.toList))))) ∧ w = w' := by
  have := of_list [s, t, u] b 0 3 w (by
      intro i hi; simp at hi
      obtain rfl | rfl | rfl : i = 0 ∨ i = 1 ∨ i = 2 := by omega
      · simpa using h0
      · simpa using h1
      · simpa using h2) (by intro x hx; simp at hx; rcases hx with rfl | rfl | rfl <;> assumption) (by simp)
  simpa [flat] using this

theorem N_eq (x y : BitVec 32) : (N x == N y) = decide (x = y) := by
  by_cases h : x = y
  · simp [h]
  · have : N x ≠ N y := by unfold N; intro e; apply h; apply BitVec.eq_of_toNat_eq; omega
    simp [h, this]

set_option maxHeartbeats 400000 in
theorem is_any (s : ByteArray) (n : Int) (w : World) (hs : s.size ≤ maxLen) :
    Calls Try.prog 12 #[.string s, .int .u32 n] w fun e w' => e = .returned (.bool (N (crc s.data.toList) == n)) ∧ w.alloc (.cells #[.string s] 9) = w' := by
  go_enter Try.func12, Try.ntmps12
  go_wp2_with (go_at_call 9; refine (of_one s _ _ (by simp [go_sem]) hs).mono ?_; rintro e w' ⟨rfl, rfl⟩)
  go_ret
  exact ⟨rfl, rfl⟩
theorem gtrans {a b c : World} (h1 : Grown a b) (h2 : Grown b c) : Grown a c :=
  ⟨World.keptBut_trans h1.1 h2.1, fun x => (h2.2.1 x).trans (h1.2.1 x), Nat.le_trans h1.2.2 h2.2.2⟩

def s9 : ByteArray := ⟨#[49, 50, 51, 52, 53, 54, 55, 56, 57]⟩
def s4 : ByteArray := ⟨#[49, 50, 51, 52]⟩
def s5 : ByteArray := ⟨#[53, 54, 55, 56, 57]⟩
theorem k9 : N (crc s9.data.toList) = 3421780262 := by decide +kernel
theorem k4 : N (more (crc s4.data.toList) s5.data.toList) = 3421780262 := by decide +kernel
theorem k0 : (N (crc [])) = 0 := by decide +kernel
theorem ki : (N (crc (ByteArray.mk #[]).data.toList) == 0) = true := by decide +kernel
theorem kj : N (shn (8 * 5) (crc s4.data.toList) ^^^ crc s5.data.toList) = 3421780262 := by decide +kernel

set_option maxHeartbeats 400000 in
theorem awake_any (w : World) : Calls Try.prog 8 #[] w fun e w' => e = .returned (.bool true) ∧ Grown w w' := by
  go_enter Try.func8, Try.ntmps8
  go_wp2_with fail
  refine (of_one s9 _ _ (by simp [go_sem, s9]) (by decide)).mono ?_
  rintro e w' ⟨rfl, rfl⟩
  rw [k9]
  go_wp2_with fail
  refine (of_nil _).mono ?_
  rintro e w' ⟨rfl, rfl⟩
  go_wp2_with fail
  refine (of_one s4 _ _ (by simp [go_sem, s4]) (by decide)).mono ?_
  rintro e w' ⟨rfl, rfl⟩
  go_wp2_with fail
  refine (more_any _ (crc s4.data.toList) s5 _ rfl (by decide)).mono ?_
  rintro e w' ⟨rfl, rfl⟩
  rw [k4]
  go_wp2_with fail
  refine (is_any _ 0 _ (by decide)).mono ?_
  rintro e w' ⟨rfl, rfl⟩
  rw [ki]
  go_wp2_with fail
  refine (of_one s4 _ _ (by simp [go_sem, s4]) (by decide)).mono ?_
  rintro e w' ⟨rfl, rfl⟩
  go_wp2_with fail
  refine (of_one s5 _ _ (by simp [go_sem, s5]) (by decide)).mono ?_
  rintro e w' ⟨rfl, rfl⟩
  go_wp2_with fail
  refine (join_some _ _ 5 (crc s4.data.toList) (crc s5.data.toList) _ rfl rfl (by decide) (by decide)).mono ?_
  rintro e w' ⟨rfl, rfl⟩
  rw [kj]
  go_wp2
  go_ret
  exact ⟨rfl, (((((Grown.refl _).alloc _ _).alloc _ _).alloc _ _).alloc _ _).alloc _ _⟩
end Go.Proofs.Ytljocchdmfeecaa
