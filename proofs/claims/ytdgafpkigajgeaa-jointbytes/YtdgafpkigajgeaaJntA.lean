/- The contracts of joint.New, Reset, Bad, Left and Seen. -/
import Derived.Test.YtdgafpkigajgeaaJntPlain
namespace Go.Proofs.Ytdgafpkigajgeaa
open Go.RowKit Go.Lib Plain

/-- a Joint at block p to which these bytes came -/
def JAt (w : World) (p : Nat) (l : List UInt8) : Prop := At w p 46 #[.string (textOf (jW l)), .int .i64 (cnt l : Int), .bool (jB l)]
theorem JAt.c0 {w : World} {p : Nat} {l : List UInt8} (h : JAt w p l) : w.cell? ⟨p, 0, none⟩ = some (.string (textOf (jW l))) := by rw [At.cell h]; rfl
theorem JAt.c1 {w : World} {p : Nat} {l : List UInt8} (h : JAt w p l) : w.cell? ⟨p, 1, none⟩ = some (.int .i64 (cnt l : Int)) := by rw [At.cell h]; rfl
theorem JAt.c2 {w : World} {p : Nat} {l : List UInt8} (h : JAt w p l) : w.cell? ⟨p, 2, none⟩ = some (.bool (jB l)) := by rw [At.cell h]; rfl
theorem at3_set0 {w : World} {g : Nat} {t : TypeId} {a b c : Value} (h : At w g t #[a, b, c]) (u : Value) : At (w.setCell ⟨g, 0, none⟩ u) g t #[u, b, c] := by
  have := At.set h 0 u; simpa using this
theorem at3_set1 {w : World} {g : Nat} {t : TypeId} {a b c : Value} (h : At w g t #[a, b, c]) (u : Value) : At (w.setCell ⟨g, 1, none⟩ u) g t #[a, u, c] := by
  have := At.set h 1 u; simpa using this
theorem at3_set2 {w : World} {g : Nat} {t : TypeId} {a b c : Value} (h : At w g t #[a, b, c]) (u : Value) : At (w.setCell ⟨g, 2, none⟩ u) g t #[a, b, u] := by
  have := At.set h 2 u; simpa using this
theorem new_jat (w : World) : JAt (w.alloc (.cells #[.string ⟨#[]⟩, .int .i64 0, .bool false] 46)) w.heap.size [] := by
  unfold JAt; rw [jW_nil, jB_nil, cnt_nil]; exact At.new w 46 _

set_option maxHeartbeats 400000 in
theorem jnew_any (w : World) : Calls Try.prog 8 #[] w fun e w' => e = .returned (.pointer (some ⟨w.heap.size, 0, none⟩)) ∧ JAt w' w.heap.size [] ∧ Below w.heap.size w w' := by
  go_enter Try.func8, Try.ntmps8
  go_wp2
  go_ret
  exact ⟨rfl, new_jat w, (Below.refl _ _).alloc (Nat.le_refl _) _⟩
set_option maxHeartbeats 400000 in
theorem jbad_some {w : World} {p : Nat} {l : List UInt8} (h : JAt w p l) : Calls Try.prog 15 #[.pointer (some ⟨p, 0, none⟩)] w fun e w' => e = .returned (.bool (jB l)) ∧ w = w' := by
  have c2 := h.c2
  have H := Lib.hid h; clear h
  go_enter Try.func15, Try.ntmps15
  go_wp2
  go_ret
  exact ⟨rfl, rfl⟩
set_option maxHeartbeats 400000 in
theorem jbad_nil (w : World) : Calls Try.prog 15 #[.pointer none] w fun e w' => e = .returned (.bool true) ∧ w = w' := by
  go_enter Try.func15, Try.ntmps15
  go_wp2
  go_ret
  exact ⟨rfl, rfl⟩
set_option maxHeartbeats 400000 in
theorem jleft_some {w : World} {p : Nat} {l : List UInt8} (h : JAt w p l) : Calls Try.prog 14 #[.pointer (some ⟨p, 0, none⟩)] w fun e w' => e = .returned (.int .i64 ((jW l).length : Int)) ∧ w = w' := by
  have c0 := h.c0
  have hz := textOf_size (jW l)
  have H := Lib.hid h; clear h
  go_enter Try.func14, Try.ntmps14
  go_wp2
  go_ret
  exact ⟨rfl, rfl⟩
set_option maxHeartbeats 400000 in
theorem jleft_nil (w : World) : Calls Try.prog 14 #[.pointer none] w fun e w' => e = .returned (.int .i64 0) ∧ w = w' := by
  go_enter Try.func14, Try.ntmps14
  go_wp2
  go_ret
  exact ⟨rfl, rfl⟩
set_option maxHeartbeats 400000 in
theorem jseen_some {w : World} {p : Nat} {l : List UInt8} (h : JAt w p l) : Calls Try.prog 16 #[.pointer (some ⟨p, 0, none⟩)] w fun e w' => e = .returned (.int .i64 (cnt l : Int)) ∧ w = w' := by
  have c1 := h.c1
  have H := Lib.hid h; clear h
  go_enter Try.func16, Try.ntmps16
  go_wp2
  go_ret
  exact ⟨rfl, rfl⟩
set_option maxHeartbeats 400000 in
theorem jseen_nil (w : World) : Calls Try.prog 16 #[.pointer none] w fun e w' => e = .returned (.int .i64 0) ∧ w = w' := by
  go_enter Try.func16, Try.ntmps16
  go_wp2
  go_ret
  exact ⟨rfl, rfl⟩
set_option maxHeartbeats 400000 in
theorem jreset_nil (w : World) : Calls Try.prog 9 #[.pointer none] w fun e w' => e = .returned (.tuple #[]) ∧ w = w' := by
  go_enter Try.func9, Try.ntmps9
  go_wp2
  go_end0
  exact ⟨rfl, rfl⟩
set_option maxHeartbeats 400000 in
theorem jreset_some {w : World} {p : Nat} {l : List UInt8} (h : JAt w p l) : Calls Try.prog 9 #[.pointer (some ⟨p, 0, none⟩)] w fun e w' => e = .returned (.tuple #[]) ∧ JAt w' p [] ∧ Chg w w' (fun k => k = p) := by
  have c0 := h.c0; have c1 := h.c1; have c2 := h.c2
  have f0 := At.frozen h 0; have f1 := At.frozen h 1; have f2 := At.frozen h 2
  have H := Lib.hid h; clear h
  go_enter Try.func9, Try.ntmps9
  go_wp2
  go_end0
  refine ⟨rfl, ?_, (((Chg.refl w (fun k => k = p)).set (p := ⟨p, 0, none⟩) (fun _ => rfl) _).set (p := ⟨p, 1, none⟩) (fun _ => rfl) _).set (p := ⟨p, 2, none⟩) (fun _ => rfl) _⟩
  have := at3_set2 (at3_set1 (at3_set0 H.out (.string ⟨#[]⟩)) (.int .i64 0)) (.bool false)
  unfold JAt; rw [jW_nil, jB_nil, cnt_nil]; exact this
end Go.Proofs.Ytdgafpkigajgeaa
