/- The anchor 'awake' of the statements returns true, and leaves what was there as it was. -/
import Derived.Test.YtdgafpkigajgeaaFrmC
namespace Go.Proofs.Ytdgafpkigajgeaa
open Go.RowKit Go.Lib Plain

def sa : ByteArray := ⟨#[97]⟩
/-- a's frame -/
def fa : ByteArray := ⟨#[0, 1, 97, 157, 185, 239, 220]⟩
theorem ka1 : textOf (ofT sa.data.toList) = fa := by decide +kernel
theorem ka2 : ofE sa.data.toList = 0 := by decide +kernel
def fax : ByteArray := ⟨#[0, 1, 97, 157, 185, 239, 220, 120]⟩
theorem ka3 : fa ++ ⟨#[120]⟩ = fax := by decide +kernel
theorem ka4 : nSt fax.data.toList = 1 := by decide +kernel
theorem ka5 : nBody fax.data.toList = [97] := by decide +kernel
theorem ka6 : nUsed fax.data.toList = 7 := by decide +kernel
theorem ka7 : textOf (ofT (⟨#[]⟩ : ByteArray).data.toList) = ⟨#[]⟩ := by decide +kernel
theorem ka8 : ofE (⟨#[]⟩ : ByteArray).data.toList = 1 := by decide +kernel
def faa : ByteArray := ⟨#[0, 1, 97, 157, 185, 239, 220, 0, 1, 97, 157, 185, 239, 220, 0]⟩
theorem ka9 : fa ++ fa ++ ⟨#[0]⟩ = faa := by decide +kernel
theorem kaa : CutsTo faa.data.toList 2 := ⟨fun i hi => by
  obtain rfl | rfl : i = 0 ∨ i = 1 := by omega
  · decide +kernel
  · decide +kernel, by decide +kernel⟩
theorem kab : rst faa.data.toList 2 = [0] := by decide +kernel
theorem kac : nSt (rst faa.data.toList 2) = 2 := by decide +kernel

/-- what Cut answers, written out: a slice of n cells -/
theorem OwnS.form {w : World} {B : Nat} {v : Value} {ts : List ByteArray} (h : OwnS w B v ts) (hn : 0 < ts.length) : ∃ g cap, v = .slice (some ⟨g, 0, none⟩) ts.length cap := by
  rcases h.2 with ⟨_, h0⟩ | ⟨g, cap, _, hv, _⟩
  · omega
  · exact ⟨g, cap, hv⟩

end Go.Proofs.Ytdgafpkigajgeaa
