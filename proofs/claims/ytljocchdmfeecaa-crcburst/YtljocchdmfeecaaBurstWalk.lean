/- The walk of the statement CrcBurst: four bytes, side by side, turned; and its last line. -/
import Derived.Test.YtljocchdmfeecaaWalkD
import Derived.Test.YtljocchdmfeecaaAnyOrder
import Derived.Laws.IdiomStrings
import Derived.Deep.Cut
import Derived.RegionTactic
import Derived.Stop.BytesEq
namespace Go.Proofs.Ytljocchdmfeecaa
open Go.RowKit Go.Lib Plain

theorem modK (z : Int) (r : Nat) (hr : r ≤ 4096) (h4 : 4 ≤ r) : ∃ n : Nat, n + 4 ≤ r ∧ wrap64 ((IntKind.u64.wrap z).tmod ((r : Int) - 3)) = (n : Int) := by
  have h0 : 0 ≤ IntKind.u64.wrap z := wrap_u64_nonneg z
  rw [Int.tmod_eq_emod_of_nonneg h0]
  have a1 := Int.emod_nonneg (IntKind.u64.wrap z) (show (r : Int) - 3 ≠ 0 by omega)
  have a2 := Int.emod_lt_of_pos (IntKind.u64.wrap z) (show (0 : Int) < (r : Int) - 3 by omega)
  generalize IntKind.u64.wrap z % ((r : Int) - 3) = m at a1 a2
  exact ⟨m.toNat, by omega, by unfold wrap64; omega⟩

structure Fb (w wx : World) (bb g : Nat) (bs l : List UInt8) : Prop where
  cells : ∀ i v, (cellsB l)[i]? = some v → wx.cell? ⟨g, i, none⟩ = some v
  free : ∀ i, i < l.length → wx.frozen? ⟨g, i, none⟩ = false
  bys : ∀ i v, (cellsB bs)[i]? = some v → wx.cell? ⟨bb, i, none⟩ = some v
  ne : bb < g
  lt : g < wx.heap.size
  below : Below w.heap.size w wx
  le : w.heap.size ≤ bb
theorem Fb.drew {w wx : World} {bb g : Nat} {bs l : List UInt8} (h : Fb w wx bb g bs l) : Fb w wx.drew bb g bs l := ⟨h.cells, h.free, h.bys, h.ne, h.lt, h.below.drew, h.le⟩
theorem Fb.alloc {w wx : World} {bb g : Nat} {bs l : List UInt8} (h : Fb w wx bb g bs l) (o : Obj) : Fb w (wx.alloc o) bb g bs l := by
  have hb := (Below.refl wx.heap.size wx).alloc (Nat.le_refl _) o
  exact ⟨fun i v hv => by rw [hb.cell (by exact h.lt)]; exact h.cells i v hv, fun i hi => by rw [hb.frozen (by exact h.lt)]; exact h.free i hi,
    fun i v hv => by rw [hb.cell (by exact Nat.lt_trans h.ne h.lt)]; exact h.bys i v hv, h.ne, Nat.lt_of_lt_of_le h.lt hb.size, h.below.alloc (by have := h.le; have := h.ne; have := h.lt; omega) o, h.le⟩
theorem cellsB_get (l : List UInt8) (i : Nat) (h : i < l.length) : (cellsB l)[i]? = some (.int .u8 (l[i].toNat : Int)) := by simp [cellsB, h]
theorem Fb.store {w wx : World} {bb g : Nat} {bs l : List UInt8} (h : Fb w wx bb g bs l) (i : Nat) (hi : i < l.length) (c : UInt8) : Fb w (wx.setCell ⟨g, i, none⟩ (.int .u8 (c.toNat : Int))) bb g bs (l.set i c) := by
  have hc := h.cells i _ (cellsB_get l i hi)
  refine ⟨fun j v hv => ?_, fun j hj => ?_, fun j v hv => ?_, h.ne, by simpa [World.setCell] using h.lt, h.below.setCell (by show w.heap.size ≤ g; have := h.le; have := h.ne; omega) _, h.le⟩
  · have e : cellsB (l.set i c) = (cellsB l).set i (.int .u8 (c.toNat : Int)) := by simp [cellsB, List.map_set]
    rw [e, List.getElem?_set] at hv
    by_cases hij : i = j
    · subst hij
      have hl : i < (cellsB l).length := by simp [cellsB, hi]
      simp [hl] at hv
      rw [← hv]
      exact World.cell?_setCell_same _ _ _ hc
    · simp [hij] at hv
      have := h.cells j v hv
      rw [World.cell?_setCell_other _ _ _ _ (by simp)]; exact this
  · rw [World.frozen?_setCell]; exact h.free j (by simpa using hj)
  · have hne : g ≠ bb := by have := h.ne; omega
    rw [World.cell?_setCell_other _ _ _ _ (by simp)]; exact h.bys j v hv

def mix (og bs : List UInt8) (j : Nat) : List UInt8 := List.zipWith (· ^^^ ·) (og.take j) (bs.take j) ++ og.drop j
theorem mix_step (l m : List UInt8) (a b c d x y z t : UInt8) (j : Nat) (hj : j < 4) :
    ∃ p q : UInt8, (l ++ mix [a, b, c, d] [x, y, z, t] j ++ m)[l.length + j]? = some p ∧ [x, y, z, t][j]? = some q ∧
      (l ++ mix [a, b, c, d] [x, y, z, t] j ++ m).set (l.length + j) (p ^^^ q) = l ++ mix [a, b, c, d] [x, y, z, t] (j + 1) ++ m := by
  obtain rfl | rfl | rfl | rfl : j = 0 ∨ j = 1 ∨ j = 2 ∨ j = 3 := by omega
  · exact ⟨a, x, by simp [mix], rfl, by simp [mix]⟩
  · exact ⟨b, y, by simp [mix], rfl, by simp [mix]⟩
  · exact ⟨c, z, by simp [mix], rfl, by simp [mix]⟩
  · exact ⟨d, t, by simp [mix], rfl, by simp [mix]⟩
theorem mix_length (l m : List UInt8) (a b c d x y z t : UInt8) (j : Nat) (hj : j ≤ 4) : (l ++ mix [a, b, c, d] [x, y, z, t] j ++ m).length = l.length + 4 + m.length := by
  obtain rfl | rfl | rfl | rfl | rfl : j = 0 ∨ j = 1 ∨ j = 2 ∨ j = 3 ∨ j = 4 := by omega
  all_goals (simp [mix]; omega)
theorem four_of (l : List UInt8) (k : Nat) (h : k + 4 ≤ l.length) : ∃ p m a b c d, l = p ++ [a, b, c, d] ++ m ∧ p.length = k := by
  have e : l = l.take k ++ l.drop k := (List.take_append_drop k l).symm
  have hl : (l.drop k).length = l.length - k := by simp
  match hd : l.drop k, hl with
  | a :: b :: c :: d :: m, _ => exact ⟨l.take k, m, a, b, c, d, by rw [hd] at e; simpa using e, by simp; omega⟩
  | [], hl => simp at hl; omega
  | [_], hl => simp at hl; omega
  | [_, _], hl => simp at hl; omega
  | [_, _, _], hl => simp at hl; omega

def crcS (s : ByteArray) : BitVec 32 := crc s.data.toList
def noTurn (x y z t : UInt8) : Bool := decide (x = 0 ∧ y = 0 ∧ z = 0 ∧ t = 0)
theorem burst_fin (s : ByteArray) (l m : List UInt8) (a b c d x y z t : UInt8) (h : s.data.toList = l ++ [a, b, c, d] ++ m) :
    (N (crcS (textOf (l ++ mix [a, b, c, d] [x, y, z, t] 4 ++ m))) == N (crcS s)) = noTurn x y z t := by
  rw [N_eq, noTurn]
  unfold crcS
  rw [textOf_data, h, decide_eq_decide]
  exact crc_burst l m a b c d x y z t

section
variable {ρ : Operand → Value} {w : World}
theorem run_build {x : Tmp} {s : ByteArray} {d : Option Tmp} {t : TypeId} {pos : String} {af : Array Edge} {gd : Option (Nat × Bool)} (e : ρ (.tmp x) = .string s) :
    (execOp ρ { dst := d, op := Op.buildSlice 36 1 #[(0, .tmp x)], type := t, pos := pos, after := af, guard := gd }).run Try.prog w = .ok (.value (.slice (some ⟨w.heap.size, 0, none⟩) 1 1)) (w.alloc (.cells #[.string s] 9)) := by
  simp [execOp, e, go_sem]
theorem run_call9 {x : Tmp} {v : Value} {d : Option Tmp} {t : TypeId} {pos : String} {af : Array Edge} {gd : Option (Nat × Bool)} (e : ρ (.tmp x) = v) (hf : ρ (.func 9) = .func (.func 9) #[] #[]) :
    (execOp ρ { dst := d, op := Op.call { callee := .value (.func 9), args := #[.tmp x], argTypes := #[36] }, type := t, pos := pos, after := af, guard := gd }).run Try.prog w = .ok (.enter 9 #[v]) w := by
  simp [execOp, e, hf, go_sem]
theorem run_eqN {x y : Tmp} {m n : Int} {q : Bool} {d : Option Tmp} {t : TypeId} {pos : String} {af : Array Edge} {gd : Option (Nat × Bool)} (e : ρ (.tmp x) = .int .u32 m) (e2 : ρ (.tmp y) = .int .u32 n) (hq : (m == n) = q) :
    (execOp ρ { dst := d, op := Op.binOp .eql 22 (.tmp x) (.tmp y) 22, type := t, pos := pos, after := af, guard := gd }).run Try.prog w = .ok (.value (.bool q)) w := by
  simp [execOp, e, e2, go_sem, hq]
theorem run_eqB {x y : Tmp} {q : Bool} {d : Option Tmp} {t : TypeId} {pos : String} {af : Array Edge} {gd : Option (Nat × Bool)} (e : ρ (.tmp x) = .bool q) (e2 : ρ (.tmp y) = .bool q) :
    (execOp ρ { dst := d, op := Op.binOp .eql 4 (.tmp x) (.tmp y) 4, type := t, pos := pos, after := af, guard := gd }).run Try.prog w = .ok (.value (.bool true)) w := by
  simp [execOp, e, e2, go_sem]
theorem run_zero {d : Option Tmp} {t : TypeId} {pos : String} {af : Array Edge} {gd : Option (Nat × Bool)} :
    (execOp ρ { dst := d, op := Op.build 31 #[], type := t, pos := pos, after := af, guard := gd }).run Try.prog w = .ok (.value (.agg #[.int .u8 0, .int .u8 0, .int .u8 0, .int .u8 0])) w := by
  simp [execOp, go_sem]
theorem run_load4 {x : Tmp} {bb : Nat} {v0 v1 v2 v3 : Int} {d : Option Tmp} {t : TypeId} {pos : String} {af : Array Edge} {gd : Option (Nat × Bool)} (e : ρ (.tmp x) = .pointer (some ⟨bb, 0, none⟩))
    (h0 : w.cell? ⟨bb, 0, none⟩ = some (.int .u8 v0)) (h1 : w.cell? ⟨bb, 1, none⟩ = some (.int .u8 v1)) (h2 : w.cell? ⟨bb, 2, none⟩ = some (.int .u8 v2)) (h3 : w.cell? ⟨bb, 3, none⟩ = some (.int .u8 v3)) :
    (execOp ρ { dst := d, op := Op.load 31 (.tmp x), type := t, pos := pos, after := af, guard := gd }).run Try.prog w = .ok (.value (.agg #[.int .u8 v0, .int .u8 v1, .int .u8 v2, .int .u8 v3])) w := by
  simp [execOp, e, go_sem, h0, h1, h2, h3]
theorem run_eqA {x y : Tmp} {a b c e : UInt8} {d : Option Tmp} {t : TypeId} {pos : String} {af : Array Edge} {gd : Option (Nat × Bool)} (e1 : ρ (.tmp x) = .agg #[.int .u8 (a.toNat : Int), .int .u8 (b.toNat : Int), .int .u8 (c.toNat : Int), .int .u8 (e.toNat : Int)]) (e2 : ρ (.tmp y) = .agg #[.int .u8 0, .int .u8 0, .int .u8 0, .int .u8 0]) :
    (execOp ρ { dst := d, op := Op.binOp .eql 31 (.tmp x) (.tmp y) 31, type := t, pos := pos, after := af, guard := gd }).run Try.prog w = .ok (.value (.bool (noTurn a b c e))) w := by
  have h5 : ∀ w, (sizeOf 5).run Try.prog w = .ok 1 w := fun w => by
    obtain ⟨i0, hi, hz0, hz1, hz2⟩ := info_parts Try.info5
    simp [sizeOf, typeInfo, hi, hz1]
  have h := Go.run_equalIn_bytes (P := Try.prog) w 9998 31 5 4 Try.underlying31 Try.underlying5 h5 [a, b, c, e] [0, 0, 0, 0] rfl rfl
  have hq : ([a, b, c, e] == [0, 0, 0, 0]) = noTurn a b c e := by
    rw [noTurn, Bool.eq_iff_iff]; simp
  rw [hq] at h
  have h' : (Op.equalIn 10000 31 (.agg #[.int .u8 (a.toNat : Int), .int .u8 (b.toNat : Int), .int .u8 (c.toNat : Int), .int .u8 (e.toNat : Int)]) (.agg #[.int .u8 0, .int .u8 0, .int .u8 0, .int .u8 0])).run Try.prog w = .ok (noTurn a b c e) w := h
  simp [execOp, e1, e2, go_sem, h']
end
theorem kind_new (w : World) (s : ByteArray) : (AnyOrder.Kind.row [.string s]).holds (.slice (some ⟨w.heap.size, 0, none⟩) 1 1) (w.alloc (.cells #[.string s] 9)) :=
  ⟨w.heap.size, rfl, by simp, fun j u hj => by
    match j, hj with
    | 0, hj => simp at hj; subst hj; simp [go_sem]⟩

theorem of_s (s : ByteArray) (b : Nat) (w : World) (hc : w.cell? ⟨b, 0, none⟩ = some (.string s)) (hs : s.size ≤ maxLen) :
    Calls Try.prog 9 #[.slice (some ⟨b, 0, none⟩) 1 1] w fun e w' => e = .returned (.int .u32 (N (crcS s))) ∧ w = w' := of_one s b w hc hs

def BInv (w : World) (bb : Nat) (bs : List UInt8) (wx : World) : Prop := Below w.heap.size w wx ∧ bb < wx.heap.size ∧ ∀ i v, (cellsB bs)[i]? = some v → wx.cell? ⟨bb, i, none⟩ = some v
theorem BInv.alloc {w : World} {bb : Nat} {bs : List UInt8} {wx : World} (h : BInv w bb bs wx) (o : Obj) : BInv w bb bs (wx.alloc o) := by
  have hb := (Below.refl wx.heap.size wx).alloc (Nat.le_refl _) o
  exact ⟨h.1.alloc h.1.size o, Nat.lt_of_lt_of_le h.2.1 hb.size, fun i v hv => by rw [hb.cell (by exact h.2.1)]; exact h.2.2 i v hv⟩
open AnyOrder in
def burstKinds (s T : ByteArray) (x y z t : UInt8) : List Kind :=
  [.eq (.string T), .row [.string T], .eq (.int .u32 (N (crcS T))), .eq (.string s), .row [.string s], .eq (.int .u32 (N (crcS s))), .eq (.bool (noTurn x y z t)),
   .eq (.agg #[.int .u8 (x.toNat : Int), .int .u8 (y.toNat : Int), .int .u8 (z.toNat : Int), .int .u8 (t.toNat : Int)]), .eq (.agg #[.int .u8 0, .int .u8 0, .int .u8 0, .int .u8 0]), .eq (.bool (noTurn x y z t)), .eq (.bool true), .eq (.bool true)]

set_option maxHeartbeats 1000000 in
theorem burst_walk (s : ByteArray) (at_ : Int) (x y z t : UInt8) (w : World) (h0 : s.size ≤ 4096) (h4 : 4 ≤ s.size) :
    Calls Try.prog 5 #[.string s, .int .i64 at_, .agg #[.int .u8 (x.toNat : Int), .int .u8 (y.toNat : Int), .int .u8 (z.toNat : Int), .int .u8 (t.toNat : Int)]] w fun e w' => e = .returned (.bool true) ∧ Below w.heap.size w w' := by
  have g0 : decide (4096 < (s.size : Int)) = false := by simp; omega
  have g1 : decide ((s.size : Int) < 4) = false := by simp; omega
  have kc := fun (w : World) => run_bytes_of_string (P := Try.prog) w 9 33 5 s Try.underlying9 Try.underlying33 Try.underlying5
  go_enter Try.func5, Try.ntmps5
  go_wp2_with fail
  refine (awake_below _).mono ?_
  rintro e w' ⟨rfl, hg⟩
  go_wp2
  obtain ⟨k, hk, ek⟩ := modK at_ s.size h0 h4
  rw [ek]
  obtain ⟨l, m, a, b, c, d, hsl, hll⟩ := four_of s.data.toList k (by simpa using hk)
  have hlen : l.length + 4 + m.length = s.size := by
    have : s.data.toList.length = s.size := by simp
    rw [hsl] at this; simp at this; omega
  have hfb : Fb w (w'.alloc (.cells (bytesRow s (grownCap w' s.size 0 5)) 5 ((bytesRow s (grownCap w' s.size 0 5)).size, (bytesRow s (grownCap w' s.size 0 5)).size + 1))).drew w.heap.size w'.heap.size [x, y, z, t] (l ++ mix [a, b, c, d] [x, y, z, t] 0 ++ m) := by
    have hsz : w.heap.size + 1 ≤ w'.heap.size := by have := hg.size; simpa using this
    have hmix : l ++ mix [a, b, c, d] [x, y, z, t] 0 ++ m = s.data.toList := by rw [hsl]; simp [mix]
    rw [hmix]
    refine ⟨fun i v hv => ?_, fun i hi => ?_, fun i v hv => ?_, by omega, by simp, ?_, Nat.le_refl _⟩
    · have hi : i < s.data.toList.length := by
        have := (List.getElem?_eq_some_iff.mp hv).1
        simpa [cellsB] using this
      show (w'.alloc _).cell? _ = _
      rw [World.cell?_alloc_mark]
      rw [cellsB_get _ i hi] at hv
      have hi' : i < s.data.size := by simpa using hi
      simp only [bytesRow, Array.getElem?_append, Array.size_map, hi', if_true, Array.getElem?_map]
      rw [Array.getElem?_eq_getElem hi']
      simpa using hv
    · show (w'.alloc _).frozen? _ = _
      rw [World.frozen?_alloc_mark]
      have : ¬ (bytesRow s (grownCap w' s.size 0 5)).size ≤ i := by
        have hi' : i < s.data.size := by simpa using hi
        have hs' : s.data.size = s.size := rfl
        simp [bytesRow]; omega
      simp [this]
    · show (w'.alloc _).cell? _ = _
      have hb1 := (Below.refl w'.heap.size w').alloc (Nat.le_refl _) (.cells (bytesRow s (grownCap w' s.size 0 5)) 5 ((bytesRow s (grownCap w' s.size 0 5)).size, (bytesRow s (grownCap w' s.size 0 5)).size + 1))
      rw [hb1.cell (by exact hsz), hg.cell (by simp)]
      rw [World.cell?_alloc_mark]
      simpa [cellsB] using hv
    · exact ((((Below.refl _ _).alloc (Nat.le_refl _) _).trans (hg.mono (by simp))).alloc (by omega) _).drew
  generalize (w'.alloc (.cells (bytesRow s (grownCap w' s.size 0 5)) 5 ((bytesRow s (grownCap w' s.size 0 5)).size, (bytesRow s (grownCap w' s.size 0 5)).size + 1))).drew = w1 at hfb
  generalize grownCap w' s.size 0 5 = cp
  generalize w'.heap.size = g at hfb
  generalize hbb : w.heap.size = bb at hfb
  have HSL := Lib.hid hsl; have HLL := Lib.hid hll; have HLEN := Lib.hid hlen
  clear ek hg kc hsl hll hlen
  go_loopg [9] 4 (fun r si wx => ∃ j : Nat, j ≤ 4 ∧ r = 4 - j ∧ si = .int .i64 (j : Int) ∧ Fb w wx bb g [x, y, z, t] (l ++ mix [a, b, c, d] [x, y, z, t] j ++ m))
  case atStart => exact ⟨0, by omega, rfl, rfl, hfb⟩
  case round =>
    obtain ⟨j, hj, hg, rfl, hr⟩ := hrel
    have HG := Lib.hid hg; clear hg hfb
    by_cases hlt : j < 4
    · obtain ⟨p, q, hp, hq, hset⟩ := mix_step l m a b c d x y z t j hlt
      have hml := mix_length l m a b c d x y z t j hj
      rw [HLL.out] at hp hset
      have hi : k + j < (l ++ mix [a, b, c, d] [x, y, z, t] j ++ m).length := by rw [hml, HLL.out]; omega
      have hc1 := hr.cells (k + j) _ (by rw [cellsB, List.getElem?_map, hp]; rfl)
      have hc2 := hr.bys j _ (by rw [cellsB, List.getElem?_map, hq]; rfl)
      have hf := hr.free (k + j) hi
      have hst := hr.store (k + j) hi (p ^^^ q)
      rw [hset] at hst
      have hx : bits .xor .u8 (p.toNat : Int) (q.toNat : Int) = ((p ^^^ q).toNat : Int) := by rw [u8_xor_nat _ _ p.toNat_lt q.toNat_lt]; simp
      have HST := Lib.hid hst
      have hksz : k + j < s.size := by have := HLEN.out; have := HLL.out; omega
      clear hset hp hq hml hi hst hr
      have b1 : (0 : Int) ≤ (k : Int) + (j : Int) := by omega
      have b2 : (k : Int) + (j : Int) < (s.size : Int) := by omega
      have b3 : (j : Int) < 4 := by omega
      have b4 : (0 : Int) ≤ (j : Int) := by omega
      have b5 : ((k : Int) + (j : Int)).toNat = k + j := by omega
      have b6 : IntKind.i64.wrap ((k : Int) + (j : Int)) = (k : Int) + (j : Int) := IntWalk.i64_in _ (by omega)
      go_wp2
      go_region
      all_goals go_wp2
      all_goals
        go_roundg (4 - (j + 1))
        case measure => have := HG.out; omega
        case rel => exact ⟨j + 1, by omega, rfl, by go_num, HST.out.drew⟩
    · obtain rfl : j = 4 := by omega
      have hml := mix_length l m a b c d x y z t 4 (Nat.le_refl _)
      rw [HLEN.out] at hml
      have hcv := conv_row wr g s.size cp _ hml hr.cells
      have hfin := burst_fin s l m a b c d x y z t HSL.out
      have hts := textOf_size (l ++ mix [a, b, c, d] [x, y, z, t] 4 ++ m)
      rw [hml] at hts
      generalize l ++ mix [a, b, c, d] [x, y, z, t] 4 ++ m = L at *
      have HF := Lib.hid hfin; have HT := Lib.hid hts
      clear hml hfin hts HG HSL HLL HLEN
      go_wp2
      refine AnyOrder.region_kinds (burstKinds s (textOf L) x y z t) (BInv w bb [x, y, z, t]) (by kernel_rfl) (by kernel_rfl) ⟨hr.below.drew, Nat.lt_trans hr.ne hr.lt, hr.bys⟩ ?_ ?_
      · intro i o listed a1 w2 ho st hdep
        match i, ho with
        | 0, ho => (injection ho with ho; subst ho; exact AnyOrder.step_value rfl rfl _ rfl st.inv (Below.refl _ _) (st.old 10 (by kernel_rfl)))
        | 1, ho => (injection ho with ho; subst ho; have e1 := st.done 0 52 (hdep ⟨0, .data⟩ (by simp) rfl) rfl; exact AnyOrder.step_value rfl rfl _ (run_build e1) (st.inv.alloc _) ((Below.refl _ _).alloc (Nat.le_refl _) _) (kind_new _ _))
        | 2, ho => (injection ho with ho; subst ho; obtain ⟨b9, e1, e2, e3⟩ := st.done 1 53 (hdep ⟨1, .data⟩ (by simp) rfl) rfl; exact AnyOrder.step_call rfl rfl _ _ (run_call9 e1 rfl) ((of_s (textOf L) _ _ (e3 0 _ rfl) (by rw [HT.out]; unfold maxLen; omega)).mono (fun e w3 h => by obtain ⟨rfl, rfl⟩ := h; exact ⟨_, rfl, st.inv, Below.refl _ _, rfl⟩)))
        | 3, ho => (injection ho with ho; subst ho; exact AnyOrder.step_value rfl rfl _ rfl st.inv (Below.refl _ _) (st.old 0 (by kernel_rfl)))
        | 4, ho => (injection ho with ho; subst ho; have e1 := st.done 3 55 (hdep ⟨3, .data⟩ (by simp) rfl) rfl; exact AnyOrder.step_value rfl rfl _ (run_build e1) (st.inv.alloc _) ((Below.refl _ _).alloc (Nat.le_refl _) _) (kind_new _ _))
        | 5, ho => (injection ho with ho; subst ho; obtain ⟨b9, e1, e2, e3⟩ := st.done 4 56 (hdep ⟨4, .data⟩ (by simp) rfl) rfl; exact AnyOrder.step_call rfl rfl _ _ (run_call9 e1 rfl) ((of_s s _ _ (e3 0 _ rfl) (by unfold maxLen; omega)).mono (fun e w3 h => by obtain ⟨rfl, rfl⟩ := h; exact ⟨_, rfl, st.inv, Below.refl _ _, rfl⟩)))
        | 6, ho => (injection ho with ho; subst ho; have e1 := st.done 2 54 (hdep ⟨2, .data⟩ (by simp) rfl) rfl; have e2 := st.done 5 57 (hdep ⟨5, .data⟩ (by simp) rfl) rfl; exact AnyOrder.step_value rfl rfl _ (run_eqN e1 e2 HF.out) st.inv (Below.refl _ _) rfl)
        | 7, ho => (injection ho with ho; subst ho; exact AnyOrder.step_value rfl rfl _ (run_load4 (st.old 5 (by kernel_rfl)) (st.inv.2.2 0 _ rfl) (st.inv.2.2 1 _ rfl) (st.inv.2.2 2 _ rfl) (st.inv.2.2 3 _ rfl)) st.inv (Below.refl _ _) rfl)
        | 8, ho => (injection ho with ho; subst ho; exact AnyOrder.step_value rfl rfl _ run_zero st.inv (Below.refl _ _) rfl)
        | 9, ho => (injection ho with ho; subst ho; have e1 := st.done 7 59 (hdep ⟨7, .data⟩ (by simp) rfl) rfl; have e2 := st.done 8 60 (hdep ⟨8, .data⟩ (by simp) rfl) rfl; exact AnyOrder.step_value rfl rfl _ (run_eqA e1 e2) st.inv (Below.refl _ _) rfl)
        | 10, ho => (injection ho with ho; subst ho; have e1 := st.done 6 58 (hdep ⟨6, .data⟩ (by simp) rfl) rfl; have e2 := st.done 9 61 (hdep ⟨9, .data⟩ (by simp) rfl) rfl; exact AnyOrder.step_value rfl rfl _ (run_eqB e1 e2) st.inv (Below.refl _ _) rfl)
        | 11, ho => (injection ho with ho; subst ho; have e1 := st.done 10 62 (hdep ⟨10, .data⟩ (by simp) rfl) rfl; exact AnyOrder.step_value rfl rfl _ rfl st.inv (Below.refl _ _) e1)
        | n + 12, ho => simp at ho
      · intro a1 w2 st
        have e6 := st.done 11 6 rfl rfl
        have hd := st.defers
        have hb2 := st.inv.1
        have e7 : a1.tmps[6]?.getD undef = .bool true := by rw [← Array.getD_eq_getD_getElem?]; exact e6
        clear e6
        have hk := ‹∀ (a : Act) (w : World), Code.wp Try.prog Code.ret _ a w → _›
        refine hk a1 w2 ?_
        go_step
        refine bodyPost_ret (v := .bool true) ?_ hd ⟨rfl, hb2⟩
        simp [results, Try.results5, go_sem, e7]
end Go.Proofs.Ytljocchdmfeecaa
