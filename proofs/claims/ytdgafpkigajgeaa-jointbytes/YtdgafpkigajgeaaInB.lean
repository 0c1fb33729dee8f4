/- The contracts of strings.Clone and of (*pack.In).Text. -/
import Derived.Test.YtdgafpkigajgeaaInA
import Derived.Test.YtdgafpkigajgeaaShelf
namespace Go.Proofs.Ytdgafpkigajgeaa
open Go.RowKit Go.Lib Plain

set_option maxHeartbeats 400000 in
theorem clone_any (s : ByteArray) (w : World) (h : s.size ≤ 281474976710656) : Calls Try.prog 25 #[.string s] w fun e w' => e = .returned (.string s) ∧ Below w.heap.size w w' := by
  go_enter Try.func25, Try.ntmps25
  go_wp2_with (go_at_call 33; refine (Try.stringslite_Clone s w h).mono ?_; rintro e w' ⟨rfl, hb⟩)
  go_ret
  exact ⟨rfl, hb⟩
theorem InAt.chg {w w' : World} {S : Nat → Prop} {p : Nat} {s : ByteArray} {bad : Bool} (h : InAt w p s bad) (hc : Chg w w' S) (hp : ¬ S p) : InAt w' p s bad := At.chg h hc hp
theorem Took.chg {w w' : World} {p : Nat} {s : ByteArray} {bad : Bool} (h : Took w p s bad w') : Chg w w' (fun k => k = p) := h.2
theorem Took.trans {w w1 w2 : World} {p : Nat} {s s2 : ByteArray} {bad bad2 : Bool} (h : Took w p s bad w1) (h2 : Took w1 p s2 bad2 w2) : Took w p s2 bad2 w2 := ⟨h2.1, chg_eq h.2 h2.2⟩

end Go.Proofs.Ytdgafpkigajgeaa
