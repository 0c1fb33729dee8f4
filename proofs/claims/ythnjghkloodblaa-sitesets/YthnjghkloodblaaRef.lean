/- The small one; the document's own: all numbers, names, whether a configuration can be, the round trip. -/
import Derived.Test.YthnjghkloodblaaTrip
import Derived.BigQuiet
import Derived.Deep.QuietTactic
namespace Go.Proofs.Ythnjghkloodblaa
open Go.RowKit Go.Lib
set_option linter.unusedVariables false

/-- a literal whose cells are known -/
theorem wpList_build_as {P : Program} {ops : Array Oper} {rest : List Oper} {o : Oper} {a : Act} {w : World} {Q : Exit → Act → World → Prop} (hg : o.guard = none) (t : TypeId) (parts : Array (Nat × Operand)) (ho : o.op = .build t parts) (cs : Array Value)
    (hf : P.built t (parts.map fun (i, x) => (i, a.eval x)).toList = some cs) (h : wpList P ops Q rest (a.put o.dst (.agg cs)) w) : wpList P ops Q (o :: rest) a w := by
  refine wpList_build hg t parts ho (by rw [hf]; rfl) ?_
  rw [hf]; exact h
def small : Cfg := ⟨[5, 1, 2, 4, 2, 4, 20, 100, 10, 1000, 2, 4, 4, 2, 0, 1, 1], 7, rfl⟩
set_option maxRecDepth 100000 in
theorem small_any (w : World) : Calls Try.prog 21 #[] w fun e w' => e = .returned small.V ∧ Below w.heap.size w w' := by
  have HZ := Lib.hid (CAt.new w zc)
  go_enter Try.func21, Try.ntmps21
  go_wp2_with (first | (refine wpList_build_as rfl 24 _ rfl small.cells (by kernel_rfl) ?_) | (refine wpList_store_row rfl 24 _ _ rfl _ small.cells rfl rfl 24 _ HZ.out (size24 small) (by rw [zc.size, small.size]) small.one ?_))
  refine bodyPost_ret (results_cell_row (P := Try.prog) Try.results21 _ _ w.heap.size 24 small.cells (0, 0) _ rfl (CAt.setRow HZ.out small) Try.underlying24 rfl (size24 small)) rfl ⟨rfl, below_setRow (below_new w _) (Nat.le_refl _) _⟩

/-- seventeen numbers in a row -/
def ints (l : List Int) : Array Value := (l.map (Value.int .i64)).toArray
theorem ints_size (l : List Int) : (ints l).size = l.length := by simp [ints]
theorem ints_at (l : List Int) (k : Nat) (h : k < l.length) : (ints l)[k]? = some (.int .i64 (l.getD k 0)) := by simp [ints, h]
theorem ints_one (l : List Int) : (ints l).all (·.oneCell') = true := by
  rw [← Array.all_toList, List.all_eq_true]
  intro x hx
  simp [ints] at hx
  obtain ⟨a, _, rfl⟩ := hx
  rfl
theorem size40 {l : List Int} (h : l.length = 17) : (Try.prog.info? 40).map (·.size) = some (ints l).size := by rw [ints_size, h]; kernel_rfl
def z17 : List Int := List.replicate 17 0
/-- an array of seventeen numbers in a block -/
abbrev IAt (w : World) (p : Nat) (l : List Int) : Prop := At w p 40 (ints l)
theorem IAt.get {w : World} {p : Nat} {l : List Int} (h : IAt w p l) {k : Nat} (hk : k < l.length) : w.cell? ⟨p, k, none⟩ = some (.int .i64 (l.getD k 0)) := by rw [At.cell h, ints_at l k hk]
theorem IAt.step {w w' : World} {p : Nat} {l : List Int} (h : IAt w p l) (hb : Below w.heap.size w w') : IAt w' p l := At.below h hb (At.lt h)
theorem IAt.setRow {w : World} {p : Nat} {l : List Int} (h : IAt w p l) (d : List Int) : IAt (w.setRow p (ints d)) p d := setRow_heap w p (ints l) (ints d) 40 (0, 0) h
theorem IAt.new (w : World) (l : List Int) : IAt (w.alloc (.cells (ints l) 40)) w.heap.size l := At.new w 40 _
theorem Cfg.list (c : Cfg) : c.n = [c.get 0, c.get 1, c.get 2, c.get 3, c.get 4, c.get 5, c.get 6, c.get 7, c.get 8, c.get 9, c.get 10, c.get 11, c.get 12, c.get 13, c.get 14, c.get 15, c.get 16] := by
  have h : c.n = (List.range 17).map c.get := by
    apply List.ext_getElem (by simp [c.len])
    intro i h1 h2
    simp [Cfg.get, h1]
  exact h
theorem ints_n (c : Cfg) : ints c.n = ints [c.get 0, c.get 1, c.get 2, c.get 3, c.get 4, c.get 5, c.get 6, c.get 7, c.get 8, c.get 9, c.get 10, c.get 11, c.get 12, c.get 13, c.get 14, c.get 15, c.get 16] := by rw [← c.list]
set_option maxRecDepth 100000 in
set_option maxHeartbeats 1000000 in
theorem list_any (c : Cfg) (w : World) : Calls Try.prog 20 #[c.V] w fun e w' => e = .returned (.agg (ints c.n)) ∧ Below w.heap.size w w' := by
  have HA := Lib.hid ((CAt.new w c).step (below_new _ (.cells (ints z17) 40)))
  have HZ := Lib.hid (IAt.new (w.alloc (.cells c.cells 24)) z17)
  have HS := Lib.hid (show (w.alloc (.cells c.cells 24)).heap.size = w.heap.size + 1 by simp)
  have HB := Lib.hid ((below_new w (.cells c.cells 24)).alloc (by simp) (.cells (ints z17) 40))
  have HN := Lib.hid c.list; have H17 := Lib.hid c.len
  rw [HS.out] at HZ
  clear HS
  have a0 := c.at_ (k := 0) (by omega)
  have a1 := c.at_ (k := 1) (by omega)
  have a2 := c.at_ (k := 2) (by omega)
  have a3 := c.at_ (k := 3) (by omega)
  have a4 := c.at_ (k := 4) (by omega)
  have a5 := c.at_ (k := 5) (by omega)
  have a6 := c.at_ (k := 6) (by omega)
  have a7 := c.at_ (k := 7) (by omega)
  have a8 := c.at_ (k := 8) (by omega)
  have a9 := c.at_ (k := 9) (by omega)
  have a10 := c.at_ (k := 10) (by omega)
  have a11 := c.at_ (k := 11) (by omega)
  have a12 := c.at_ (k := 12) (by omega)
  have a13 := c.at_ (k := 13) (by omega)
  have a14 := c.at_ (k := 14) (by omega)
  have a15 := c.at_ (k := 15) (by omega)
  have a16 := c.at_ (k := 16) (by omega)
  go_enter Try.func20, Try.ntmps20
  go_wp2_with (first | (refine wpList_build_as rfl 40 _ rfl (ints [c.get 0, c.get 1, c.get 2, c.get 3, c.get 4, c.get 5, c.get 6, c.get 7, c.get 8, c.get 9, c.get 10, c.get 11, c.get 12, c.get 13, c.get 14, c.get 15, c.get 16]) (by kernel_rfl) ?_) | (refine wpList_store_row rfl 40 _ _ rfl _ (ints [c.get 0, c.get 1, c.get 2, c.get 3, c.get 4, c.get 5, c.get 6, c.get 7, c.get 8, c.get 9, c.get 10, c.get 11, c.get 12, c.get 13, c.get 14, c.get 15, c.get 16]) rfl rfl 40 _ HZ.out (size40 rfl) rfl (ints_one _) ?_))
  refine bodyPost_ret (results_cell_row (P := Try.prog) Try.results20 _ _ (w.heap.size + 1) 40 (ints [c.get 0, c.get 1, c.get 2, c.get 3, c.get 4, c.get 5, c.get 6, c.get 7, c.get 8, c.get 9, c.get 10, c.get 11, c.get 12, c.get 13, c.get 14, c.get 15, c.get 16]) (0, 0) _ rfl (IAt.setRow HZ.out _) Try.underlying40 rfl (size40 rfl)) rfl ⟨by rw [HN.out], below_setRow HB.out (by omega) _⟩

/-- seventeen names in a row -/
def texts (l : List ByteArray) : Array Value := (l.map Value.string).toArray
def e17 : List ByteArray := List.replicate 17 ⟨#[]⟩
theorem size31 : (Try.prog.info? 31).map (·.size) = some (texts names).size := by kernel_rfl
theorem texts_at {k : Nat} (h : k < 17) : (texts names)[k]? = some (.string (nm k)) := by
  have := nm_get h
  simp [texts, this]
theorem texts_one (l : List ByteArray) : (texts l).all (·.oneCell') = true := by
  rw [← Array.all_toList, List.all_eq_true]
  intro x hx
  simp [texts] at hx
  obtain ⟨a, _, rfl⟩ := hx
  rfl
set_option maxRecDepth 100000 in
theorem rnames_any (w : World) : Calls Try.prog 16 #[] w fun e w' => e = .returned (.agg (texts names)) ∧ Below w.heap.size w w' := by
  have HZ := Lib.hid (At.new w 31 (texts e17))
  go_enter Try.func16, Try.ntmps16
  go_wp2_with (first | (refine wpList_build_as rfl 31 _ rfl (texts names) (by kernel_rfl) ?_) | (refine wpList_store_row rfl 31 _ _ rfl _ (texts names) rfl rfl 31 _ HZ.out size31 rfl (texts_one _) ?_))
  refine bodyPost_ret (results_cell_row (P := Try.prog) Try.results16 _ _ w.heap.size 31 (texts names) (0, 0) _ rfl (setRow_heap _ _ _ _ _ _ HZ.out) Try.underlying31 rfl size31) rfl ⟨rfl, below_setRow (below_new w _) (Nat.le_refl _) _⟩
end Go.Proofs.Ythnjghkloodblaa
