/- The contract of 'same', and what 'append' of one row of texts to another makes. -/
import Derived.Test.YtdgafpkigajgeaaJntB
namespace Go.Proofs.Ytdgafpkigajgeaa
open Go.RowKit Go.Lib Plain

/-- a row of texts that can be read -/
def SlS (w : World) (v : Value) (ts : List ByteArray) : Prop := ∃ O cap, v = .slice O ts.length cap ∧ StrsAt w w.heap.size O ts
theorem OwnS.sl {w : World} {B : Nat} {v : Value} {ts : List ByteArray} (h : OwnS w B v ts) : SlS w v ts := h.read
theorem SlS.below {w w' : World} {v : Value} {ts : List ByteArray} (h : SlS w v ts) (hb : Below w.heap.size w w') : SlS w' v ts := by
  obtain ⟨O, cap, rfl, h⟩ := h
  exact ⟨O, cap, rfl, (h.keep hb).mono hb.size⟩

set_option maxRecDepth 100000 in
set_option maxHeartbeats 1600000 in
theorem same_any {w : World} {a b : Value} {ts : List ByteArray} (ha : SlS w a ts) (hb : SlS w b ts) (hn : ts.length ≤ 1000000) :
    Calls Try.prog 13 #[a, b] w fun e w' => e = .returned (.bool true) ∧ Below w.heap.size w w' := by
  obtain ⟨A, ca, rfl, ha⟩ := ha
  obtain ⟨B, cb, rfl, hb⟩ := hb
  have HA := Lib.hid ha; have HB := Lib.hid hb; clear ha hb
  go_enter Try.func13, Try.ntmps13
  go_wp2_with fail
  go_loopg [5] ts.length (fun g s5 wx => ∃ j : Nat, j ≤ ts.length ∧ g = ts.length - j ∧ s5 = .int .i64 (j : Int) ∧ Below w.heap.size w wx)
  case atStart => exact ⟨0, Nat.zero_le _, rfl, rfl, Below.refl _ _⟩
  case round =>
    obtain ⟨j, hj, hg, rfl, hb⟩ := hrel
    have HG := Lib.hid hg; have KB := Lib.hid hb; clear hg hb
    by_cases hlt : j < ts.length
    · obtain ⟨b1, o1, rfl, _, hc1⟩ := (HA.out.keep KB.out) j hlt
      obtain ⟨b2, o2, rfl, _, hc2⟩ := (HB.out.keep KB.out) j hlt
      generalize ts.getD j ByteArray.empty = t at hc1 hc2
      have b3 : (j : Int) < (ts.length : Int) := by omega
      have b4 : (0 : Int) ≤ (j : Int) := by omega
      go_wp2_with fail
      go_quiet (fail)
      go_wp2_with fail
      go_roundg (ts.length - (j + 1))
      case measure => have := HG.out; omega
      case rel => exact ⟨j + 1, by omega, rfl, by go_num, KB.out.trans ((below_drewN _ _).mono KB.out.size)⟩
    · go_wp2_with fail
      go_ret
      exact ⟨rfl, KB.out⟩

/-- a row of texts that 'append' takes -/
def SrcS (w : World) (v : Value) (ts : List ByteArray) : Prop :=
  (v = .slice none 0 0 ∧ ts = []) ∨ ∃ b off cap, v = .slice (some ⟨b, off, none⟩) ts.length cap ∧ ∀ i, i < ts.length → w.cell? ⟨b, off + i, none⟩ = some (.string (ts.getD i ByteArray.empty))
theorem add_at (b off i : Nat) : (⟨b, off, none⟩ : Addr).add i = ⟨b, off + i, none⟩ := by
  unfold Addr.add
  by_cases h1 : i = 0 <;> simp [h1]
theorem OwnS.src {w : World} {B : Nat} {v : Value} {ts : List ByteArray} (h : OwnS w B v ts) : SrcS w v ts := by
  have hl := h.1
  rcases h.2 with ⟨rfl, h0⟩ | ⟨g, cap, cur, rfl, _⟩
  · exact .inl ⟨rfl, List.length_eq_zero_iff.1 h0⟩
  · refine .inr ⟨g, 0, cap, rfl, fun i hi => ?_⟩
    have := World.ownsRow.cells h (g := g) rfl i (.string (ts.getD i ByteArray.empty)) (by simp [hi])
    rw [add_at] at this
    exact this
/-- 'append(a, b...)' of texts -/
theorem append_strs {w : World} {B : Nat} {v u : Value} {ts us : List ByteArray} (ty : TypeId) (ho : OwnS w B v ts) (hs : SrcS w u us) (hn : ts.length + us.length ≤ 1000000) (hB : B ≤ w.heap.size) :
    ∃ v' w', (Builtin.append_ #[22, 22] ty #[v, u]).run Try.prog w = .ok v' w' ∧ OwnS w' B v' (ts ++ us) ∧ w.grownBy w' v.ownBlock := by
  obtain ⟨i9, hi9, hz90, hz91, hz92⟩ := info_parts info9
  rcases hs with ⟨rfl, rfl⟩ | ⟨b, off, cap, rfl, hc⟩
  · refine ⟨v, w, run_append_owned_none (P := Try.prog) (w := w) B 22 ty 9 i9 1 Try.underlying22 hi9 v ts.length _ ho, ?_, ⟨rfl, rfl, rfl, Nat.le_refl _, fun _ _ _ => rfl⟩⟩
    rw [List.append_nil]; exact ho
  · obtain ⟨v', w', hr, h2, h3, _⟩ := run_append_own (P := Try.prog) w B 22 ty 9 i9 _ 1 16 Try.underlying22 hi9 hz90 hz91 hz92 rfl (by omega) v ts.length _ ho ⟨b, off, none⟩ us.length cap (us.map Value.string) (by simp) (fun j u hu => by
        rw [List.getElem?_map] at hu
        rcases Nat.lt_or_ge j us.length with h | h
        · rw [add_at, hc j h]
          simp [List.getD, h] at hu ⊢
          exact hu
        · rw [List.getElem?_eq_none h] at hu; cases hu) (fun u hu => by obtain ⟨s, _, rfl⟩ := List.mem_map.1 hu; rfl) (by unfold maxLen; omega) (by omega) hB
    refine ⟨v', w', hr, ?_, h3⟩
    unfold OwnS
    rw [List.map_append, List.length_append]
    exact h2
end Go.Proofs.Ytdgafpkigajgeaa
