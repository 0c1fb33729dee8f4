/- The contracts of what Drop calls: the function that is handed in, slices.BinarySearch, and the closure that asks whether a number is among the chosen. -/
import Derived.Test.YtenajaiedoigpaaInts
namespace Go.Proofs.Ytenajaiedoigpaa
open Go.RowKit Go.Lib Plain

/-- whether a number's rest is 0 -/
def oddB (by_ n : Int) : Bool := n.tmod by_ == 0
/-- the function that is handed to Drop -/
def fodd (by_ : Int) : Value := .func (.func 20) #[.agg #[.int .i64 by_]] #[]
set_option maxHeartbeats 400000 in
theorem is_any (by_ n : Int) (h1 : 2 ≤ by_) (h2 : by_ ≤ 4) (w : World) : Calls Try.prog 20 #[.agg #[.int .i64 by_], .int .i64 n] w fun e w' => e = .returned (.bool (oddB by_ n)) ∧ w' = w.alloc (.cells #[.int .i64 by_] 42) := by
  unfold oddB
  have b0 : ¬ by_ = 0 := by omega
  have b1 : ¬ by_ = -1 := by omega
  go_enter Try.func20, Try.ntmps20
  go_wp2
  go_ret
  exact ⟨rfl, rfl⟩
set_option maxHeartbeats 400000 in
theorem cnan_any (a : Int) (w : World) : Calls Try.prog 61 #[.int .i64 a] w fun e w' => e = .returned (.bool false) ∧ w = w' := by
  go_enter Try.func61, Try.ntmps61
  go_wp2
  go_ret
  exact ⟨rfl, rfl⟩
set_option maxHeartbeats 400000 in
theorem snan_any (a : Int) (w : World) : Calls Try.prog 58 #[.int .i64 a] w fun e w' => e = .returned (.bool false) ∧ w = w' := by
  go_enter Try.func58, Try.ntmps58
  go_wp2
  go_ret
  exact ⟨rfl, rfl⟩
set_option maxHeartbeats 400000 in
theorem less_yes (a b : Int) (h : a < b) (w : World) : Calls Try.prog 57 #[.int .i64 a, .int .i64 b] w fun e w' => e = .returned (.bool true) ∧ w = w' := by
  go_enter Try.func57, Try.ntmps57
  go_wp2_with (go_at_call 61; refine (cnan_any _ _).mono ?_; rintro e w' ⟨rfl, rfl⟩)
  go_ret
  exact ⟨rfl, rfl⟩
set_option maxHeartbeats 400000 in
theorem less_no (a b : Int) (h : b ≤ a) (w : World) : Calls Try.prog 57 #[.int .i64 a, .int .i64 b] w fun e w' => e = .returned (.bool false) ∧ w = w' := by
  have h' : decide (a < b) = false := by simpa using h
  go_enter Try.func57, Try.ntmps57
  go_wp2_with (go_at_call 61; refine (cnan_any _ _).mono ?_; rintro e w' ⟨rfl, rfl⟩)
  go_ret
  exact ⟨rfl, rfl⟩
theorem sorted_lt {zs : List Int} (hs : zs.Pairwise (· < ·)) {a b : Nat} (hab : a < b) (hb : b < zs.length) : zs.getD a 0 < zs.getD b 0 := by
  have := List.pairwise_iff_getElem.1 hs a b (by omega) hb hab
  simpa [List.getD, List.getElem?_eq_getElem hb, List.getElem?_eq_getElem (show a < zs.length by omega)] using this
theorem mem_getD {zs : List Int} {t : Int} : t ∈ zs ↔ ∃ i, i < zs.length ∧ zs.getD i 0 = t := by
  rw [List.mem_iff_getElem]
  constructor
  · rintro ⟨i, h, e⟩; exact ⟨i, h, by simp [List.getD, List.getElem?_eq_getElem h, e]⟩
  · rintro ⟨i, h, e⟩; exact ⟨i, h, by simpa [List.getD, List.getElem?_eq_getElem h] using e⟩
set_option maxRecDepth 100000 in
set_option maxHeartbeats 800000 in
theorem bsearch_any {w : World} {v : Value} {zs : List Int} (t : Int) (hv : SlI w v zs) (hs : zs.Pairwise (· < ·)) (hn : zs.length ≤ 100000) :
    Calls Try.prog 43 #[v, .int .i64 t] w fun e w' => ∃ i : Int, e = .returned (.tuple #[.int .i64 i, .bool (decide (t ∈ zs))]) ∧ w = w' := by
  obtain ⟨O, cap, rfl, ha⟩ := hv
  have HA := Lib.hid ha; have HS := Lib.hid hs; clear ha hs
  go_enter Try.func43, Try.ntmps43
  go_wp2_with fail
  go_loopg [7, 8] zs.length (fun gh s7 s8 wx => ∃ i j : Nat, i ≤ j ∧ j ≤ zs.length ∧ gh = j - i ∧ s7 = .int .i64 (i : Int) ∧ s8 = .int .i64 (j : Int) ∧ (∀ a, a < i → zs.getD a 0 < t) ∧ (∀ a, j ≤ a → a < zs.length → t ≤ zs.getD a 0) ∧ w = wx)
  case atStart => exact ⟨0, zs.length, Nat.zero_le _, Nat.le_refl _, rfl, rfl, rfl, fun a ha => absurd ha (by omega), fun a ha hb => absurd ha (by omega), rfl⟩
  case round =>
    obtain ⟨i, j, hij, hj, hg, rfl, rfl, hlo, hhi, rfl⟩ := hrel
    have HG := Lib.hid hg; have HLO := Lib.hid hlo; have HHI := Lib.hid hhi; clear hg hlo hhi
    by_cases hlt : i < j
    · have h1 : i ≤ (i + j) / 2 := by omega
      have h2 : (i + j) / 2 < j := by omega
      obtain ⟨b1, o1, rfl, _, hc1⟩ := HA.out ((i + j) / 2) (by omega)
      have b3 : ((((i + j) / 2 : Nat)) : Int) < (zs.length : Int) := by omega
      generalize hh : (i + j) / 2 = h at *
      generalize hy : zs.getD h 0 = y at hc1
      have HY := Lib.hid hy; clear hy
      rcases Int.lt_or_le y t with hyt | hyt
      · have cl := less_yes y t hyt w
        have CL := Lib.hid cl; clear cl
        go_wp2_with fail
        refine CL.out.mono ?_
        rintro e w' ⟨rfl, rfl⟩
        go_wp2_with fail
        go_roundg (j - (h + 1))
        case measure => have := HG.out; omega
        case rel => exact ⟨h + 1, j, by omega, hj, rfl, by go_num, rfl, fun a ha => by
          rcases Nat.lt_or_ge a h with hah | hah
          · have := sorted_lt HS.out hah (by omega); have := HY.out; omega
          · have : a = h := by omega
            rw [this, HY.out]; exact hyt, HHI.out, rfl⟩
      · have cl := less_no y t hyt w
        have CL := Lib.hid cl; clear cl
        go_wp2_with fail
        refine CL.out.mono ?_
        rintro e w' ⟨rfl, rfl⟩
        go_wp2_with fail
        go_roundg (h - i)
        case measure => have := HG.out; omega
        case rel => exact ⟨i, h, by omega, by omega, rfl, rfl, by go_num, HLO.out, fun a ha hb => by
          rcases Nat.lt_or_ge h a with hah | hah
          · have := sorted_lt HS.out hah hb; have := HY.out; omega
          · have : a = h := by omega
            rw [this, HY.out]; exact hyt, rfl⟩
    · obtain rfl : i = j := by omega
      by_cases hin : i < zs.length
      · obtain ⟨b1, o1, rfl, _, hc1⟩ := HA.out i hin
        have b3 : (i : Int) < (zs.length : Int) := by omega
        generalize hy : zs.getD i 0 = y at hc1
        have HY := Lib.hid hy; clear hy
        by_cases hyt : y = t
        · have hm : decide (t ∈ zs) = true := by
            rw [decide_eq_true_eq, mem_getD]; exact ⟨i, hin, by rw [HY.out, hyt]⟩
          subst hyt
          have HM := Lib.hid hm; clear hm
          go_wp2_with fail
          go_ret2
          rw [HM.out]
          exact ⟨_, rfl, rfl⟩
        · have hm : decide (t ∈ zs) = false := by
            rw [decide_eq_false_iff_not, mem_getD]
            rintro ⟨a, ha, e⟩
            have hyv := HY.out
            rcases Nat.lt_trichotomy a i with h | h | h
            · have := HLO.out a h; omega
            · subst h; omega
            · have := sorted_lt HS.out h ha; have := HHI.out i (Nat.le_refl _) hin; omega
          have HM := Lib.hid hm
          have b5 : (y == t) = false := beq_eq_false_iff_ne.2 hyt
          clear hm
          go_wp2_with (go_at_call 58; refine (snan_any _ _).mono ?_; rintro e w' ⟨rfl, rfl⟩)
          go_ret2
          rw [HM.out]
          exact ⟨_, rfl, rfl⟩
      · have hm : decide (t ∈ zs) = false := by
          rw [decide_eq_false_iff_not, mem_getD]
          rintro ⟨a, ha, e⟩
          have := HLO.out a (by omega); omega
        have HM := Lib.hid hm; clear hm
        go_wp2_with fail
        go_ret2
        rw [HM.out]
        exact ⟨_, rfl, rfl⟩
/-- the closure that Drop hands to slices.DeleteFunc -/
def fdel (h : Nat) : Value := .func (.func 42) #[] #[.pointer (some ⟨h, 0, none⟩)]
set_option maxHeartbeats 800000 in
theorem del_any {w : World} {h B : Nat} {vl : Value} {ns : List Int} (x : Int × Nat) (hv : At w h 30 #[vl]) (ho : OwnI w B vl ns) (hs : ns.Pairwise (· < ·)) (hn : ns.length ≤ 100000) :
    Calls Try.prog 42 #[.agg #[.int .i64 x.1, .int .i64 (x.2 : Int)], .pointer (some ⟨h, 0, none⟩)] w fun e w' => e = .returned (.bool (decide ((x.2 : Int) ∈ ns))) ∧ w' = w.alloc (.cells #[.int .i64 x.1, .int .i64 (x.2 : Int)] 70) := by
  have hb : Below w.heap.size w (w.alloc (.cells #[.int .i64 x.1, .int .i64 (x.2 : Int)] 70)) := (Below.refl _ _).alloc (Nat.le_refl _) _
  have c0 : w.cell? ⟨h, 0, none⟩ = some vl := by rw [hv.cell]; rfl
  have lt := hv.lt
  have cb := bsearch_any (x.2 : Int) (ho.below hb).sl hs hn
  have CB := Lib.hid cb; clear cb ho hs hb hv
  go_enter Try.func42, Try.ntmps42
  go_wp2_with fail
  refine CB.out.mono ?_
  rintro e w' ⟨i, rfl, rfl⟩
  go_wp2_with fail
  go_ret
  exact ⟨rfl, rfl⟩
end Go.Proofs.Ytenajaiedoigpaa
