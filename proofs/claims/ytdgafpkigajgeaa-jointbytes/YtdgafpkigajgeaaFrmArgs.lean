/- How a row of texts and four bytes that came in are read. -/
import Derived.Test.YtdgafpkigajgeaaFrmC
import Derived.ProofKit
import Derived.OpenShut
import Derived.ShutString
import Derived.SliceStrings
namespace Go.Proofs.Ytdgafpkigajgeaa
open Go.RowKit Go.Lib Plain
section
variable {H : Type} {enc : TypeId × Value → H} {w : World} {base : Nat} {held : Bool}
theorem open_strs {fuel : Nat} {a : Option Addr} {len cap : Nat} {x : DataW H × List MemPlace}
    (h : DataW.trod enc Try.prog w base (fun _ => true) held fuel 22 [.slice a len cap] = some x) :
    len ≤ maxLen ∧ ∃ ss : List ByteArray, ss.length = len ∧ (∀ y ∈ ss, y.size ≤ maxLen) ∧ StrsAt w w.heap.size a ss := by
  rcases Go.ChangeShapes.open_strings Try.underlying22 Try.underlying9 (by kernel_rfl) h with ⟨hcs, _⟩ | ⟨ad, l, c, zs, hcs, _, hl, hm, hz, _, hcell, hwz⟩
  · simp at hcs
    obtain ⟨rfl, rfl, rfl⟩ := hcs
    exact ⟨Nat.zero_le _, [], rfl, by simp, fun i hi => absurd hi (by simp)⟩
  · simp at hcs
    obtain ⟨rfl, rfl, rfl⟩ := hcs
    simp only [if_true] at hz
    refine ⟨by omega, zs.take len, by rw [List.length_take]; omega, fun y hy => hwz y (List.mem_of_mem_take hy), ?_⟩
    intro i hi
    have hi : i < len := by rw [List.length_take] at hi; omega
    have hc := hcell i (by omega)
    have h0 := hcell 0 (by omega)
    have hspot : ad.spot = none := by
      have e0 : ad.add 0 = ad := by simp [Addr.add]
      rw [e0] at h0
      exact World.cell?_spot h0
    have hblk : ad.block < w.heap.size := by
      have := World.block_lt_of_cell? w _ h0
      simpa [Addr.add] using this
    obtain ⟨b, off, sp⟩ := ad
    simp only at hspot hblk
    subst hspot
    refine ⟨b, off, rfl, hblk, ?_⟩
    have e : (⟨b, off, none⟩ : Addr).add i = ⟨b, off + i, none⟩ := by
      unfold Addr.add
      by_cases h1 : i = 0 <;> simp [h1]
    rw [e] at hc
    rw [hc]
    simp [List.getD, hi]
end
theorem wf_i64 {n : Int} (h : (Lit.int .i64 n).wf = true) : inI64 n := by
  simp [Lit.wf, IntKind.min, IntKind.max, IntKind.bits, IntKind.signed] at h
  unfold inI64; omega

theorem list4 {α : Type} (l : List α) (h : (⟨l⟩ : Array α).size = 4) : ∃ a b c d, l = [a, b, c, d] := by
  match l, h with
  | [a, b, c, d], _ => exact ⟨a, b, c, d, rfl⟩
theorem byte_wf {n : Int} (h : (Lit.int .u8 n).wf = true) : ∃ x : UInt8, n = (x.toNat : Int) := by
  have h1 := (bounds_u8 h).1
  have h2 := (bounds_u8 h).2
  refine ⟨UInt8.ofNat n.toNat, ?_⟩
  rw [UInt8.toNat_ofNat']; omega
end Go.Proofs.Ytdgafpkigajgeaa
