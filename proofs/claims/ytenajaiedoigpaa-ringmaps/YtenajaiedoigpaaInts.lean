/- Rows of numbers: those that came in, those that a call owns; 'ints'; 'append' of one to another. -/
import Derived.Test.YtenajaiedoigpaaAwake
import Derived.ProofKit
import Derived.OpenShut
import Derived.ShutString
import Derived.ChangeSlices
import Derived.Deep.Grids
import Derived.Lib.AppendZeros
import Derived.Maps.AppendAt
namespace Go.Proofs.Ytenajaiedoigpaa
open Go.RowKit Go.Lib Plain

def inI64 (x : Int) : Prop := -9223372036854775808 ≤ x ∧ x ≤ 9223372036854775807
theorem wf_i64 {n : Int} (h : (Lit.int .i64 n).wf = true) : inI64 n := by
  simp [Lit.wf, IntKind.min, IntKind.max, IntKind.bits, IntKind.signed] at h
  unfold inI64; omega
theorem add_at (b off i : Nat) : (⟨b, off, none⟩ : Addr).add i = ⟨b, off + i, none⟩ := by
  unfold Addr.add
  by_cases h1 : i = 0 <;> simp [h1]
/-- a row of numbers that can be read: all below block B -/
def IntsAt (w : World) (B : Nat) (A : Option Addr) (zs : List Int) : Prop :=
  ∀ i, i < zs.length → ∃ b off, A = some ⟨b, off, none⟩ ∧ b < B ∧ w.cell? ⟨b, off + i, none⟩ = some (.int .i64 (zs.getD i 0))
theorem IntsAt.keep {w w' : World} {B : Nat} {A : Option Addr} {zs : List Int} (h : IntsAt w B A zs) (hb : Below B w w') : IntsAt w' B A zs := by
  intro i hi
  obtain ⟨b, off, e, hlt, hc⟩ := h i hi
  exact ⟨b, off, e, hlt, (hb.cell (p := ⟨b, off + i, none⟩) hlt).trans hc⟩
theorem IntsAt.mono {w : World} {B B' : Nat} {A : Option Addr} {zs : List Int} (h : IntsAt w B A zs) (hB : B ≤ B') : IntsAt w B' A zs := by
  intro i hi
  obtain ⟨b, off, e, hlt, hc⟩ := h i hi
  exact ⟨b, off, e, by omega, hc⟩
/-- a row of bools that came in: all below block B -/
def BoolsAt (w : World) (B : Nat) (A : Option Addr) (zs : List Bool) : Prop :=
  ∀ i, i < zs.length → ∃ b off, A = some ⟨b, off, none⟩ ∧ b < B ∧ w.cell? ⟨b, off + i, none⟩ = some (.bool (zs.getD i false))
theorem BoolsAt.keep {w w' : World} {B : Nat} {A : Option Addr} {zs : List Bool} (h : BoolsAt w B A zs) (hb : Below B w w') : BoolsAt w' B A zs := by
  intro i hi
  obtain ⟨b, off, e, hlt, hc⟩ := h i hi
  exact ⟨b, off, e, hlt, (hb.cell (p := ⟨b, off + i, none⟩) hlt).trans hc⟩
section
variable {H : Type} {enc : TypeId × Value → H} {w : World} {base : Nat} {held : Bool}
theorem open_nums {fuel : Nat} {a : Option Addr} {len cap : Nat} {x : DataW H × List MemPlace}
    (h : DataW.trod enc Try.prog w base (fun _ => true) held fuel 30 [.slice a len cap] = some x) :
    len ≤ maxLen ∧ ∃ zs : List Int, zs.length = len ∧ (∀ y ∈ zs, inI64 y) ∧ IntsAt w w.heap.size a zs := by
  rcases Go.ChangeShapes.open_ints Try.underlying30 Try.underlying3 (by kernel_rfl) h with ⟨hcs, _⟩ | ⟨ad, l, c, zs, hcs, _, hl, hm, hz, _, hcell, hwz⟩
  · simp at hcs
    obtain ⟨rfl, rfl, rfl⟩ := hcs
    exact ⟨Nat.zero_le _, [], rfl, by simp, fun i hi => absurd hi (by simp)⟩
  · simp at hcs
    obtain ⟨rfl, rfl, rfl⟩ := hcs
    simp only [if_true] at hz
    refine ⟨by omega, zs.take len, by rw [List.length_take]; omega, fun y hy => wf_i64 (hwz y (List.mem_of_mem_take hy)), ?_⟩
    intro i hi
    have hi : i < len := by rw [List.length_take] at hi; omega
    have hc := hcell i (by omega)
    have h0 := hcell 0 (by omega)
    have hspot : ad.spot = none := by
      have e0 : ad.add 0 = ad := by simp [Addr.add]
      rw [e0] at h0
      exact World.cell?_spot h0
    have hblk : ad.block < w.heap.size := by
      have := World.block_lt_of_cell? w _ h0
      simpa [Addr.add] using this
    obtain ⟨b, off, sp⟩ := ad
    simp only at hspot hblk
    subst hspot
    refine ⟨b, off, rfl, hblk, ?_⟩
    rw [add_at] at hc
    rw [hc]
    simp [List.getD, hi]
theorem open_bools {fuel : Nat} {a : Option Addr} {len cap : Nat} {x : DataW H × List MemPlace}
    (h : DataW.trod enc Try.prog w base (fun _ => true) held fuel 54 [.slice a len cap] = some x) :
    len ≤ maxLen ∧ ∃ zs : List Bool, zs.length = len ∧ BoolsAt w w.heap.size a zs := by
  rcases Go.Deep.open_bools Try.underlying54 Try.underlying4 (by kernel_rfl) h with ⟨hcs, _⟩ | ⟨ad, l, c, Bf, hcs, _, hl, hm, _, hcell⟩
  · simp at hcs
    obtain ⟨rfl, rfl, rfl⟩ := hcs
    exact ⟨Nat.zero_le _, [], rfl, fun i hi => absurd hi (by simp)⟩
  · simp at hcs
    obtain ⟨rfl, rfl, rfl⟩ := hcs
    refine ⟨by omega, (List.range len).map Bf, by simp, ?_⟩
    intro i hi
    have hi : i < len := by simpa using hi
    have hc := hcell i (by omega)
    have h0 := hcell 0 (by omega)
    have hspot : ad.spot = none := by
      have e0 : ad.add 0 = ad := by simp [Addr.add]
      rw [e0] at h0
      exact World.cell?_spot h0
    have hblk : ad.block < w.heap.size := by
      have := World.block_lt_of_cell? w _ h0
      simpa [Addr.add] using this
    obtain ⟨b, off, sp⟩ := ad
    simp only at hspot hblk
    subst hspot
    refine ⟨b, off, rfl, hblk, ?_⟩
    rw [add_at] at hc
    rw [hc]
    simp [List.getD, hi]
end
/-- a row of numbers that a call owns -/
def OwnI (w : World) (B : Nat) (v : Value) (zs : List Int) : Prop := w.ownsRow B 3 1 v zs.length (zs.map (Value.int .i64))
/-- a row of numbers that can be read -/
def SlI (w : World) (v : Value) (zs : List Int) : Prop := ∃ O cap, v = .slice O zs.length cap ∧ IntsAt w w.heap.size O zs
section
variable {w w' : World} {B : Nat} {v : Value} {zs : List Int}
theorem OwnI.sl (h : OwnI w B v zs) : SlI w v zs := by
  have hl := h.1
  rcases h.2 with ⟨rfl, h0⟩ | ⟨g, cap, cur, rfl, _, hg, _⟩
  · have : zs = [] := List.length_eq_zero_iff.1 h0
    subst this
    exact ⟨none, 0, rfl, fun i hi => absurd hi (by simp)⟩
  · refine ⟨_, cap, rfl, fun i hi => ⟨g, 0, rfl, (Array.getElem?_eq_some_iff.1 hg).1, ?_⟩⟩
    have := World.ownsRow.cells h (g := g) rfl i (.int .i64 (zs.getD i 0)) (by simp [hi])
    rw [add_at] at this
    exact this
theorem OwnI.below (h : OwnI w B v zs) (hb : Below w.heap.size w w') : OwnI w' B v zs := own_chg h (Chg.ofBelow hb (fun _ => False)) (fun _ _ h => h)
theorem OwnI.lt (h : OwnI w B v zs) {g : Nat} (hg : v.ownBlock = some g) : B ≤ g ∧ g < w.heap.size := World.ownsRow.lt h g hg
theorem OwnI.mono {B' : Nat} (h : OwnI w B v zs) (hB : B' ≤ B) : OwnI w B' v zs := by
  refine ⟨h.1, ?_⟩
  rcases h.2 with hn | ⟨g, cap, cur, hv, hb, rest⟩
  · exact .inl hn
  · exact .inr ⟨g, cap, cur, hv, by omega, rest⟩
theorem SlI.below (h : SlI w v zs) (hb : Below w.heap.size w w') : SlI w' v zs := by
  obtain ⟨O, cap, rfl, h⟩ := h
  exact ⟨O, cap, rfl, (h.keep hb).mono hb.size⟩
theorem OwnI.ring {rt pt : TypeId} {b : Nat} (h : OwnI w B v zs) (hc : Chg w w' (RBlk rt pt w b)) (h1 : (3 : TypeId) ≠ rt) (h2 : (3 : TypeId) ≠ pt) : OwnI w' B v zs := own_ring h hc h1 h2
theorem RI.Row.own {G : Nat} {xs : List Int} (h : RI.Row w G xs.length xs.length xs) (hB : B ≤ G) (hn : xs.length ≤ 65536) : OwnI w B (.slice (some ⟨G, 0, none⟩) xs.length xs.length) xs := by
  obtain ⟨arr, ha, hz, hc⟩ := h
  refine ⟨by simp, .inr ⟨G, xs.length, arr, rfl, hB, ha, Nat.le_refl _, by unfold maxLen; omega, by simpa using hz, ?_⟩⟩
  apply List.ext_getElem?
  intro i
  rw [Nat.mul_one, List.getElem?_take, List.getElem?_map]
  by_cases hi : i < xs.length
  · rw [if_pos hi]
    have := hc i (xs[i]) hi (List.getElem?_eq_getElem hi)
    rw [Array.getElem?_toList, this, List.getElem?_eq_getElem hi]
    rfl
  · rw [if_neg hi, List.getElem?_eq_none (by omega)]
    rfl
end
set_option maxRecDepth 100000 in
set_option maxHeartbeats 800000 in
theorem ints_any {w : World} {a b : Value} {zs : List Int} (ha : SlI w a zs) (hb : SlI w b zs) (hn : zs.length ≤ 1000000) :
    Calls Try.prog 21 #[a, b] w fun e w' => e = .returned (.bool true) ∧ Below w.heap.size w w' := by
  obtain ⟨A, ca, rfl, ha⟩ := ha
  obtain ⟨B, cb, rfl, hb⟩ := hb
  have HA := Lib.hid ha; have HB := Lib.hid hb; clear ha hb
  go_enter Try.func21, Try.ntmps21
  go_wp2_with fail
  go_loopg [5] zs.length (fun g s5 wx => ∃ j : Nat, j ≤ zs.length ∧ g = zs.length - j ∧ s5 = .int .i64 (j : Int) ∧ Below w.heap.size w wx)
  case atStart => exact ⟨0, Nat.zero_le _, rfl, rfl, Below.refl _ _⟩
  case round =>
    obtain ⟨j, hj, hg, rfl, hb⟩ := hrel
    have HG := Lib.hid hg; have KB := Lib.hid hb; clear hg hb
    by_cases hlt : j < zs.length
    · obtain ⟨b1, o1, rfl, _, hc1⟩ := (HA.out.keep KB.out) j hlt
      obtain ⟨b2, o2, rfl, _, hc2⟩ := (HB.out.keep KB.out) j hlt
      generalize zs.getD j 0 = t at hc1 hc2
      have b3 : (j : Int) < (zs.length : Int) := by omega
      have b4 : (0 : Int) ≤ (j : Int) := by omega
      go_wp2_with fail
      go_quiet (fail)
      go_wp2_with fail
      go_roundg (zs.length - (j + 1))
      case measure => have := HG.out; omega
      case rel => exact ⟨j + 1, by omega, rfl, by go_num, below_drewN KB.out _⟩
    · go_wp2_with fail
      go_ret
      exact ⟨rfl, KB.out⟩
/-- a row of numbers that 'append' takes -/
def SrcI (w : World) (v : Value) (zs : List Int) : Prop :=
  (v = .slice none 0 0 ∧ zs = []) ∨ ∃ b off cap, v = .slice (some ⟨b, off, none⟩) zs.length cap ∧ ∀ i, i < zs.length → w.cell? ⟨b, off + i, none⟩ = some (.int .i64 (zs.getD i 0))
theorem OwnI.src {w : World} {B : Nat} {v : Value} {zs : List Int} (h : OwnI w B v zs) : SrcI w v zs := by
  rcases h.2 with ⟨rfl, h0⟩ | ⟨g, cap, cur, rfl, _⟩
  · exact .inl ⟨rfl, List.length_eq_zero_iff.1 h0⟩
  · refine .inr ⟨g, 0, cap, rfl, fun i hi => ?_⟩
    have := World.ownsRow.cells h (g := g) rfl i (.int .i64 (zs.getD i 0)) (by simp [hi])
    rw [add_at] at this
    exact this
theorem src_one (w : World) (x : Int) : SrcI (w.alloc (.cells #[.int .i64 x] 3)) (.slice (some ⟨w.heap.size, 0, none⟩) 1 1) [x] := by
  refine .inr ⟨w.heap.size, 0, 1, rfl, fun i hi => ?_⟩
  have hi : i = 0 := by simpa using hi
  subst hi
  exact (At.new w 3 #[.int .i64 x]).cell 0
theorem own_lit0 (w : World) {B : Nat} (hB : B ≤ w.heap.size) : OwnI (w.alloc (.cells #[] 3)) B (.slice (some ⟨w.heap.size, 0, none⟩) 0 0) [] := World.ownsRow_lit w #[] 0 hB (by decide) rfl
/-- 'append(a, b...)' of numbers -/
theorem append_ints {w : World} {B : Nat} {v u : Value} {zs us : List Int} (ty : TypeId) (ho : OwnI w B v zs) (hs : SrcI w u us) (hn : zs.length + us.length ≤ 1000000) (hB : B ≤ w.heap.size) :
    ∃ v' w', (Builtin.append_ #[30, 30] ty #[v, u]).run Try.prog w = .ok v' w' ∧ OwnI w' B v' (zs ++ us) ∧ w.grownBy w' v.ownBlock ∧ Lies w v v' := by
  obtain ⟨i3, hi3, hz0, hz1, hz2⟩ := info_parts info3
  rcases hs with ⟨rfl, rfl⟩ | ⟨b, off, cap, rfl, hc⟩
  · refine ⟨v, w, run_append_owned_none (P := Try.prog) (w := w) B 30 ty 3 i3 1 Try.underlying30 hi3 v zs.length _ ho, ?_, ⟨rfl, rfl, rfl, Nat.le_refl _, fun _ _ _ => rfl⟩, Lies.refl _ _⟩
    rw [List.append_nil]; exact ho
  · obtain ⟨v', w', hr, h2, h3, _, h5⟩ := run_append_own_at (P := Try.prog) w B 30 ty 3 i3 _ 1 8 Try.underlying30 hi3 hz0 hz1 hz2 rfl (by omega) v zs.length _ ho ⟨b, off, none⟩ us.length cap (us.map (Value.int .i64)) (by simp) (fun j u hu => by
        rw [List.getElem?_map] at hu
        rcases Nat.lt_or_ge j us.length with h | h
        · rw [add_at, hc j h]
          simp [List.getD, h] at hu ⊢
          exact hu
        · rw [List.getElem?_eq_none h] at hu; cases hu) (fun u hu => by obtain ⟨s, _, rfl⟩ := List.mem_map.1 hu; rfl) (by unfold maxLen; omega) (by omega) hB
    refine ⟨v', w', hr, ?_, h3, ?_⟩
    · unfold OwnI
      rw [List.map_append, List.length_append]
      exact h2
    · rcases h5 with h5 | h5
      · exact .inl h5
      · exact .inr ⟨_, h5, Nat.le_refl _⟩
end Go.Proofs.Ytenajaiedoigpaa
