import Derived.Test.YtplapoenhohliaaGreatVtG
import Derived.Deep.QuietTactic
namespace Go.Proofs.YtplapoenhohliaaGreat
open Go.RowKit Go.Lib
set_option linter.unusedVariables false
set_option linter.unusedSimpArgs false
def Rises (xs : List Cg) : Prop := xs.Pairwise (fun a b => a.ix < b.ix)
def upto (xs : List Cg) (n : Int) : Nat := (xs.takeWhile (fun c => decide (c.ix ≤ n))).length
theorem upto_le (xs : List Cg) (n : Int) : upto xs n ≤ xs.length := (List.takeWhile_sublist _).length_le
theorem upto_eq : ∀ {xs : List Cg} {n : Int} {k : Nat}, k ≤ xs.length → (∀ a, a < k → ∀ c, xs[a]? = some c → c.ix ≤ n) → (∀ a, k ≤ a → ∀ c, xs[a]? = some c → n < c.ix) → upto xs n = k
 | [], n, k, hk, _, _ => by
  have : k = 0 := by simpa using hk
  subst this; rfl
 | c :: xs, n, 0, _, _, h2 => by
  have := h2 0 (Nat.le_refl _) c rfl
  unfold upto
  rw [List.takeWhile_cons, if_neg (by simp; omega)]
  rfl
 | c :: xs, n, k + 1, hk, h1, h2 => by
  have h0 := h1 0 (by omega) c rfl
  unfold upto
  rw [List.takeWhile_cons, if_pos (by simpa using h0), List.length_cons]
  congr 1
  exact upto_eq (by simpa using hk) (fun a ha d hd => h1 (a + 1) (by omega) d (by simpa using hd)) (fun a ha d hd => h2 (a + 1) (by omega) d (by simpa using hd))
theorem upto_spec {xs : List Cg} (hs : Rises xs) (n : Int) : (∀ a, a < upto xs n → ∀ c, xs[a]? = some c → c.ix ≤ n) ∧ (∀ a, upto xs n ≤ a → ∀ c, xs[a]? = some c → n < c.ix) := by
 induction xs with
 | nil => exact ⟨fun a _ c h => by simp at h, fun a _ c h => by simp at h⟩
 | cons x xs ih =>
  have hp := List.pairwise_cons.1 hs
  obtain ⟨i1, i2⟩ := ih hp.2
  unfold upto
  rw [List.takeWhile_cons]
  by_cases hx : x.ix ≤ n
  ·rw [if_pos (by simpa using hx), List.length_cons]
   refine ⟨fun a ha c hc => ?_, fun a ha c hc => ?_⟩
   ·cases a with
    | zero =>
     have : x = c := by simpa using hc
     subst this; exact hx
    | succ a => exact i1 a (by unfold upto; omega) c (by simpa using hc)
   ·cases a with
    | zero => omega
    | succ a => exact i2 a (by unfold upto; omega) c (by simpa using hc)
  ·rw [if_neg (by simpa using hx)]
   refine ⟨fun a ha => absurd ha (by simp), fun a _ c hc => ?_⟩
   cases a with
   | zero =>
    have : x = c := by simpa using hc
    subst this; omega
   | succ a =>
    have hm : c ∈ xs := List.mem_of_getElem? (by simpa using hc)
    have := hp.1 c hm
    omega
structure Uc (W : World) (p2 p3 g : Nat) (x : Vt) (n : Int) (xs : List Cg) : Prop where
 a2 : At W p2 27 #[ptr g 0]
 a3 : At W p3 3 #[.int .i64 n]
 vt : VtAt W g x
 row : Sh.Rd eG W x.v xs
theorem Uc.step {W W' : World} {p2 p3 g : Nat} {x : Vt} {n : Int} {xs : List Cg} (h : Uc W p2 p3 g x n xs) (hb : Below W.heap.size W W') : Uc W' p2 p3 g x n xs := ⟨h.a2.step hb, h.a3.step hb, h.vt.step hb, h.row.below hb⟩
abbrev fup (p2 p3 : Nat) : Value := .func (.func 47) #[] #[ptr p2 0, ptr p3 0]
set_option maxHeartbeats 800000 in
theorem up1_any {W : World} {p2 p3 g : Nat} {x : Vt} {n : Int} {xs : List Cg} (h : Uc W p2 p3 g x n xs) {i : Nat} {c : Cg} (hc : xs[i]? = some c) (hn : xs.length ≤ 100000) : Calls Tryz.prog 47 #[.int .i64 (i : Int), ptr p2 0, ptr p3 0] W fun e w' => e = .returned (.bool (decide (n < c.ix))) ∧ ∃ k, w' = W.drewN k := by
 have hi : i < xs.length := (List.getElem?_eq_some_iff.1 hc).1
 obtain ⟨O, cap, hv, hcap, hr⟩ := h.row
 obtain ⟨b, off, rfl, hlt, hcell⟩ := hr i c hc
 have k51 := VtAt.k51 h.vt
 rw [hv] at k51
 have c2 : W.cell? ⟨p2, 0, none⟩ = some (ptr g 0) := by rw [At.cell h.a2]; rfl
 have c3 : W.cell? ⟨p3, 0, none⟩ = some (.int .i64 n) := by rw [At.cell h.a3]; rfl
 have k0 : W.cell? ⟨b, off + i * 11, none⟩ = some (.int .i64 c.ix) := hcell 0 _ rfl
 have b1 : (0 : Int) ≤ (i : Int) := by omega
 have b2 : (i : Int) < (xs.length : Int) := by omega
 generalize xs.length = N at *
 generalize c.ix = y at *
 clear h hr hcell hv hc hlt hcap hn hi
 go_enter Tryz.func47, Tryz.ntmps47
 go_wp2_with fail
 go_quiet (fail)
 go_wp2_with fail
 go_ret
 exact ⟨rfl, _, rfl⟩
set_option maxRecDepth 100000 in
set_option maxHeartbeats 1600000 in
theorem search_any {w : World} {p2 p3 g : Nat} {x : Vt} {n : Int} {xs : List Cg} (h : Uc w p2 p3 g x n xs) (hs : Rises xs) (hn : xs.length ≤ 100000) : Calls Tryz.prog 46 #[.int .i64 (xs.length : Int), fup p2 p3] w fun e w' => e = .returned (.int .i64 (upto xs n : Int)) ∧ Below w.heap.size w w' := by
 have HU := Lib.hid h; have HS := Lib.hid hs; clear h hs
 obtain ⟨M, hM⟩ : ∃ M, xs.length = M := ⟨_, rfl⟩
 rw [hM] at hn ⊢
 have HM := Lib.hid hM; clear hM
 go_enter Tryz.func46, Tryz.ntmps46
 go_wp2_with fail
 go_loopg [5, 6] M (fun gh s5 s6 wx => ∃ i j : Nat, i ≤ j ∧ j ≤ M ∧ gh = j - i ∧ s5 = .int .i64 (i : Int) ∧ s6 = .int .i64 (j : Int) ∧ (∀ a, a < i → ∀ c, xs[a]? = some c → c.ix ≤ n) ∧ (∀ a, j ≤ a → ∀ c, xs[a]? = some c → n < c.ix) ∧ Below w.heap.size w wx)
 case atStart => exact ⟨0, M, Nat.zero_le _, Nat.le_refl _, rfl, rfl, rfl, fun a ha => absurd ha (by omega), fun a ha c hc => absurd (List.getElem?_eq_some_iff.1 hc).1 (by have := HM.out; omega), Below.refl _ _⟩
 case round =>
  obtain ⟨i, j, hij, hj, hg, rfl, rfl, hlo, hhi, hb⟩ := hrel
  have HG := Lib.hid hg; have HLO := Lib.hid hlo; have HHI := Lib.hid hhi; have HB := Lib.hid hb; clear hg hlo hhi hb
  by_cases hlt : i < j
  ·have h1 : i ≤ (i + j) / 2 := by omega
   have h2 : (i + j) / 2 < j := by omega
   have hq : (i + j) / 2 < xs.length := by have := HM.out; omega
   obtain ⟨c, hc⟩ : ∃ c, xs[(i + j) / 2]? = some c := ⟨_, List.getElem?_eq_getElem hq⟩
   have CU := Lib.hid (up1_any (HU.out.step HB.out) hc (by have := HM.out; omega))
   have HC := Lib.hid hc
   clear hc hq
   generalize hh : (i + j) / 2 = h at *
   have hmid : ((i : Int) + (j : Int)) / 2 = (h : Int) := by omega
   by_cases hyt : n < c.ix
   ·rw [decide_eq_true hyt] at CU
    go_wp2_with fail
    refine CU.out.mono ?_
    rintro e w' ⟨rfl, k, rfl⟩
    go_wp2_with fail
    go_roundg (h - i)
    case measure => have := HG.out; omega
    case rel => exact ⟨i, h, by omega, by omega, rfl, rfl, rfl, HLO.out, fun a ha d hd => by
     rcases Nat.lt_or_ge h a with hah | hah
     ·have hp := List.pairwise_iff_getElem.1 HS.out h a (by have := (List.getElem?_eq_some_iff.1 HC.out).1; omega) ((List.getElem?_eq_some_iff.1 hd).1) hah
      rw [(List.getElem?_eq_some_iff.1 HC.out).2, (List.getElem?_eq_some_iff.1 hd).2] at hp
      omega
     ·obtain rfl : a = h := by omega
      have : c = d := Option.some.inj (HC.out.symm.trans hd)
      subst this; exact hyt, below_drewN HB.out _⟩
   ·rw [decide_eq_false hyt] at CU
    go_wp2_with fail
    refine CU.out.mono ?_
    rintro e w' ⟨rfl, k, rfl⟩
    go_wp2_with fail
    go_roundg (j - (h + 1))
    case measure => have := HG.out; omega
    case rel => exact ⟨h + 1, j, by omega, hj, rfl, by go_num, rfl, fun a ha d hd => by
     rcases Nat.lt_or_ge a h with hah | hah
     ·have hp := List.pairwise_iff_getElem.1 HS.out a h ((List.getElem?_eq_some_iff.1 hd).1) (by have := (List.getElem?_eq_some_iff.1 HC.out).1; omega) hah
      rw [(List.getElem?_eq_some_iff.1 HC.out).2, (List.getElem?_eq_some_iff.1 hd).2] at hp
      omega
     ·obtain rfl : a = h := by omega
      have : c = d := Option.some.inj (HC.out.symm.trans hd)
      subst this; omega, HHI.out, below_drewN HB.out _⟩
  ·obtain rfl : i = j := by omega
   have HQ := Lib.hid (upto_eq (by have := HM.out; omega) HLO.out HHI.out)
   go_wp2_with fail
   go_ret
   exact ⟨by rw [HQ.out]; rfl, HB.out⟩
end Go.Proofs.YtplapoenhohliaaGreat
