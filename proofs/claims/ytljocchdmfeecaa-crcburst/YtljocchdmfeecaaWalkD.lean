/- The anchor 'awake' once more: nothing that was there has turned; and what a row of bytes that the call made reads as a text. -/
import Derived.Test.YtljocchdmfeecaaWalkC
import Derived.Laws.OwnMore
import Derived.Laws.BytesString
namespace Go.Proofs.Ytljocchdmfeecaa
open Go.RowKit Go.Lib Plain

set_option maxHeartbeats 400000 in
theorem awake_below (w : World) : Calls Try.prog 8 #[] w fun e w' => e = .returned (.bool true) ∧ Below w.heap.size w w' := by
  go_enter Try.func8, Try.ntmps8
  go_wp2_with fail
  refine (of_one s9 _ _ (by simp [go_sem, s9]) (by decide)).mono ?_
  rintro e w' ⟨rfl, rfl⟩
  rw [k9]
  go_wp2_with fail
  refine (of_nil _).mono ?_
  rintro e w' ⟨rfl, rfl⟩
  go_wp2_with fail
  refine (of_one s4 _ _ (by simp [go_sem, s4]) (by decide)).mono ?_
  rintro e w' ⟨rfl, rfl⟩
  go_wp2_with fail
  refine (more_any _ (crc s4.data.toList) s5 _ rfl (by decide)).mono ?_
  rintro e w' ⟨rfl, rfl⟩
  rw [k4]
  go_wp2_with fail
  refine (is_any _ 0 _ (by decide)).mono ?_
  rintro e w' ⟨rfl, rfl⟩
  rw [ki]
  go_wp2_with fail
  refine (of_one s4 _ _ (by simp [go_sem, s4]) (by decide)).mono ?_
  rintro e w' ⟨rfl, rfl⟩
  go_wp2_with fail
  refine (of_one s5 _ _ (by simp [go_sem, s5]) (by decide)).mono ?_
  rintro e w' ⟨rfl, rfl⟩
  go_wp2_with fail
  refine (join_some _ _ 5 (crc s4.data.toList) (crc s5.data.toList) _ rfl rfl (by decide) (by decide)).mono ?_
  rintro e w' ⟨rfl, rfl⟩
  rw [kj]
  go_wp2
  go_ret
  exact ⟨rfl, (((((Below.refl _ _).alloc (Nat.le_refl _) _).alloc (by simp) _).alloc (by simp; omega) _).alloc (by simp; omega) _).alloc (by simp; omega) _⟩

theorem Try.info5 : (Try.prog.info? 5).map (fun i => (i.zero, i.size, i.bytes)) = some (some (.int .u8 0), 1, 1) := by kernel_rfl

/-- a row of bytes of the call's own, as a text -/
def textOf (l : List UInt8) : ByteArray := ⟨l.toArray⟩
theorem foldl_push (ns : List UInt8) (s : ByteArray) : (ns.map (fun x => (x.toNat : Int))).foldl (fun r n => r.push (UInt8.ofNat n.toNat)) s = ⟨s.data ++ ns.toArray⟩ := by
  induction ns generalizing s with
  | nil => simp
  | cons c ns ih => simp only [List.map_cons, List.foldl_cons, ih]; simp
/-- the bytes of a text as the cells of a row -/
def cellsB (l : List UInt8) : List Value := l.map (fun x => Value.int .u8 (x.toNat : Int))
theorem conv_row (w : World) (g n c : Nat) (ns : List UInt8) (hn : ns.length = n) (hc : ∀ j v, (cellsB ns)[j]? = some v → w.cell? ⟨g, j, none⟩ = some v) :
    (convert 33 9 (.slice (some ⟨g, 0, none⟩) n c)).run Try.prog w = .ok (.string (textOf ns)) w := by
  rw [run_convert_bytes_string w 33 9 5 _ _ _ Try.underlying33 Try.underlying5 Try.underlying9]
  have e : cellsB ns = (ns.map (fun x => (x.toNat : Int))).map (Value.int .u8) := by simp [cellsB]
  have hl : (cellsB ns).length = n := by simp [cellsB, hn]
  have h := run_loadCells_list (P := Try.prog) (w := w) ⟨g, 0, none⟩ (cellsB ns) (fun j v h => by cases j <;> simpa [Addr.add] using hc _ v h)
  rw [hl] at h
  rw [run_bytesToString w ⟨g, 0, none⟩ n c (ns.map (fun x => (x.toNat : Int))) (by rw [h, e]), foldl_push]
  simp [textOf]
theorem textOf_data (l : List UInt8) : (textOf l).data.toList = l := by simp [textOf]
theorem textOf_size (l : List UInt8) : (textOf l).size = l.length := by simp [textOf, ByteArray.size]
theorem u8_xor3 (a b c : UInt8) : bits .xor .u8 (bits .xor .u8 (a.toNat : Int) (b.toNat : Int)) (c.toNat : Int) = ((a ^^^ b ^^^ c).toNat : Int) := by
  rw [u8_xor_nat _ _ a.toNat_lt b.toNat_lt, u8_xor_nat _ _ (by have := (a ^^^ b).toNat_lt; simpa using this) c.toNat_lt]
  simp
end Go.Proofs.Ytljocchdmfeecaa
