/- The walk of FrameTurned: it returns true. -/
import Derived.Test.YtakooppceifamaaFrmF
import Derived.Test.YtakooppceifamaaFrameBack
import Derived.Laws.IdiomStrings
import Derived.Deep.Cut
import Derived.RegionTactic
import Derived.Stop.BytesEq
namespace Go.Proofs.Ytakooppceifamaa
open Go.RowKit Go.Lib Plain

theorem eq4 (a b c e : UInt8) (w : World) : (Op.equalIn 10000 41 (.agg #[.int .u8 (a.toNat : Int), .int .u8 (b.toNat : Int), .int .u8 (c.toNat : Int), .int .u8 (e.toNat : Int)]) (.agg #[.int .u8 0, .int .u8 0, .int .u8 0, .int .u8 0])).run Try.prog w = .ok (noTurn a b c e) w := by
  have h5 : ∀ w, (sizeOf 5).run Try.prog w = .ok 1 w := fun w => by
    obtain ⟨i0, hi, hz0, hz1, hz2⟩ := info_parts info5
    simp [sizeOf, typeInfo, hi, hz1]
  have h := Go.run_equalIn_bytes (P := Try.prog) w 9998 41 5 4 Try.underlying41 Try.underlying5 h5 [a, b, c, e] [0, 0, 0, 0] rfl rfl
  have hq : ([a, b, c, e] == [0, 0, 0, 0]) = noTurn a b c e := by
    rw [noTurn, Bool.eq_iff_iff]; simp
  rw [hq] at h
  exact h

set_option maxRecDepth 100000 in
set_option maxHeartbeats 1600000 in
theorem turned_walk (b0 : ByteArray) (z0 : Int) (x y z t : UInt8) (w : World) (hb : b0.size ≤ maxLen) (hz : inI64 z0) :
    Calls Try.prog 6 #[.string b0, .int .i64 z0, .agg #[.int .u8 (x.toNat : Int), .int .u8 (y.toNat : Int), .int .u8 (z.toNat : Int), .int .u8 (t.toNat : Int)]] w fun e w' => e = .returned (.bool true) ∧ Below w.heap.size w w' := by
  have c1 := fun wx => fof_any b0 wx hb
  by_cases kb : okB b0.data.toList = true
  · rw [ofT_yes kb, ofE_yes kb] at c1
    have rb := (okB_iff _).1 kb
    rw [size_list] at rb
    obtain ⟨rb1, rb2⟩ := rb
    have z1 : (textOf (frm b0.data.toList)).size = b0.size + 6 := by rw [textOf_size, frm_length, size_list]
    have hd1 : (textOf (frm b0.data.toList)).data.toList = frm b0.data.toList := textOf_data _
    generalize textOf (frm b0.data.toList) = s at c1 z1 hd1
    obtain ⟨k0, hk0, ek⟩ : ∃ n : Nat, n < b0.size + 1 ∧ wrap64 ((IntKind.u64.wrap z0).tmod ((b0.size : Int) + (1 : Int))) = (n : Int) := rem_at z0 b0.size 1 (by omega) (by omega) (by omega)
    have kc := fun (w : World) => run_bytes_of_string (P := Try.prog) w 9 42 5 s Try.underlying9 Try.underlying42 Try.underlying5
    have C1 := Lib.hid c1; have KB := Lib.hid kb; have HD1 := Lib.hid hd1; clear c1 kb hb hz hd1
    go_enter Try.func6, Try.ntmps6
    go_wp2_with fail
    refine (awake_any _).mono ?_
    rintro e w0 ⟨rfl, hb0⟩
    have HB0 := Lib.hid hb0; clear hb0
    go_wp2_with fail
    refine (C1.out _).mono ?_
    rintro e w1 ⟨rfl, hb1⟩
    have HB1 := Lib.hid hb1; clear hb1
    go_wp2_with fail
    obtain ⟨k, hk⟩ : ∃ k : Nat, k = 2 + k0 := ⟨_, rfl⟩
    have ek1 : (b0.size : Int) + (6 : Int) - (5 : Int) = (b0.size : Int) + (1 : Int) := by omega
    rw [ek1, ek]
    have ek2 : wrap64 ((2 : Int) + (k0 : Int)) = (k : Int) := by unfold wrap64; omega
    rw [ek2]
    have hfl : s.data.toList.length = s.size := size_list s
    obtain ⟨l, m, a, b, c, d, hsl, hll⟩ := four_of s.data.toList k (by omega)
    have hlen : l.length + 4 + m.length = b0.size + 6 := by rw [hsl] at hfl; simp at hfl; omega
    have hfb : Fb w (w1.alloc (.cells (bytesRow s (grownCap w1 (b0.size + 6) 0 5)) 5 ((bytesRow s (grownCap w1 (b0.size + 6) 0 5)).size, (bytesRow s (grownCap w1 (b0.size + 6) 0 5)).size + 1))).drew w.heap.size w1.heap.size [x, y, z, t] (l ++ mix [a, b, c, d] [x, y, z, t] 0 ++ m) := by
      have hA : Below w.heap.size w w0 := ((Below.refl _ _).alloc (Nat.le_refl _) _).trans (HB0.out.mono (by simp))
      have hsz0 : w.heap.size + 1 ≤ w0.heap.size := by have := HB0.out.size; simpa using this
      have hsz : w.heap.size + 1 ≤ w1.heap.size := Nat.le_trans hsz0 HB1.out.size
      have hmix : l ++ mix [a, b, c, d] [x, y, z, t] 0 ++ m = s.data.toList := by rw [hsl]; simp [mix]
      rw [hmix]
      refine ⟨fun i v hv => ?_, fun i hi => ?_, fun i v hv => ?_, by omega, by simp, ?_, Nat.le_refl _⟩
      · have hi : i < s.data.toList.length := by
          have := (List.getElem?_eq_some_iff.mp hv).1
          simpa [cellsB] using this
        show (w1.alloc _).cell? _ = _
        rw [World.cell?_alloc_mark]
        rw [cellsB_get _ i hi] at hv
        have hi' : i < s.data.size := by simpa using hi
        simp only [bytesRow, Array.getElem?_append, Array.size_map, hi', if_true, Array.getElem?_map]
        rw [Array.getElem?_eq_getElem hi']
        simpa using hv
      · show (w1.alloc _).frozen? _ = _
        rw [World.frozen?_alloc_mark]
        have : ¬ (bytesRow s (grownCap w1 (b0.size + 6) 0 5)).size ≤ i := by
          have hi' : i < s.data.size := by simpa using hi
          have hs' : s.data.size = s.size := rfl
          simp [bytesRow]; omega
        simp [this]
      · show (w1.alloc _).cell? _ = _
        have hb1 := (Below.refl w1.heap.size w1).alloc (Nat.le_refl _) (.cells (bytesRow s (grownCap w1 (b0.size + 6) 0 5)) 5 ((bytesRow s (grownCap w1 (b0.size + 6) 0 5)).size, (bytesRow s (grownCap w1 (b0.size + 6) 0 5)).size + 1))
        rw [hb1.cell (by exact hsz), HB1.out.cell (by exact hsz0), HB0.out.cell (by simp)]
        rw [World.cell?_alloc_mark]
        simpa [cellsB] using hv
      · exact ((hA.trans (HB1.out.mono hA.size)).alloc (by omega) _).drew
    generalize (w1.alloc (.cells (bytesRow s (grownCap w1 (b0.size + 6) 0 5)) 5 ((bytesRow s (grownCap w1 (b0.size + 6) 0 5)).size, (bytesRow s (grownCap w1 (b0.size + 6) 0 5)).size + 1))).drew = w3 at hfb
    generalize grownCap w1 (b0.size + 6) 0 5 = cp
    generalize w1.heap.size = g at hfb
    generalize hbb : w.heap.size = bb at hfb
    have HSL := Lib.hid hsl; have HLL := Lib.hid hll; have HLEN := Lib.hid hlen; have HKK := Lib.hid hk
    clear ek ek1 ek2 kc hsl hll hlen hfl hk
    go_loopg [11] 4 (fun r si wx => ∃ j : Nat, j ≤ 4 ∧ r = 4 - j ∧ si = .int .i64 (j : Int) ∧ Fb w wx bb g [x, y, z, t] (l ++ mix [a, b, c, d] [x, y, z, t] j ++ m))
    case atStart => exact ⟨0, by omega, rfl, rfl, hfb⟩
    case round =>
      obtain ⟨j, hj, hg, rfl, hr⟩ := hrel
      have HG := Lib.hid hg; clear hg hfb
      by_cases hlt : j < 4
      · obtain ⟨p, q, hp, hq, hset⟩ := mix_step l m a b c d x y z t j hlt
        have hml := mix_length l m a b c d x y z t j hj
        rw [HLL.out] at hp hset
        have hi : k + j < (l ++ mix [a, b, c, d] [x, y, z, t] j ++ m).length := by rw [hml, HLL.out]; omega
        have hc1 := hr.cells (k + j) _ (by rw [cellsB, List.getElem?_map, hp]; rfl)
        have hc2 := hr.bys j _ (by rw [cellsB, List.getElem?_map, hq]; rfl)
        have hf := hr.free (k + j) hi
        have hst := hr.store (k + j) hi (p ^^^ q)
        rw [hset] at hst
        have hx : bits .xor .u8 (p.toNat : Int) (q.toNat : Int) = ((p ^^^ q).toNat : Int) := by rw [u8_xor_nat _ _ p.toNat_lt q.toNat_lt]; simp
        have HST := Lib.hid hst
        have hksz : k + j < b0.size + 6 := by have := HLEN.out; have := HLL.out; omega
        clear hset hp hq hml hi hst hr
        have b1 : (0 : Int) ≤ (k : Int) + (j : Int) := by omega
        have b2 : (k : Int) + (j : Int) < (b0.size : Int) + 6 := by omega
        have b3 : (j : Int) < 4 := by omega
        have b4 : (0 : Int) ≤ (j : Int) := by omega
        have b5 : ((k : Int) + (j : Int)).toNat = k + j := by omega
        have b6 : IntKind.i64.wrap ((k : Int) + (j : Int)) = (k : Int) + (j : Int) := IntWalk.i64_in _ (by omega)
        go_wp2
        go_region
        all_goals go_wp2
        all_goals
          go_roundg (4 - (j + 1))
          case measure => have := HG.out; omega
          case rel => exact ⟨j + 1, by omega, rfl, by go_num, HST.out.drew⟩
      · obtain rfl : j = 4 := by omega
        have hml := mix_length l m a b c d x y z t 4 (Nat.le_refl _)
        rw [HLEN.out] at hml
        have hcv := conv_row wr g (b0.size + 6) cp _ hml hr.cells
        have hmx : mix [a, b, c, d] [x, y, z, t] 4 = [a ^^^ x, b ^^^ y, c ^^^ z, d ^^^ t] := rfl
        have htu := turned b0.data.toList l m a b c d x y z t KB.out (by rw [HLL.out]; have := HKK.out; omega) (by rw [← HD1.out]; exact HSL.out)
        rw [hmx] at hcv hml
        have cn := fnext_any (textOf (l ++ [a ^^^ x, b ^^^ y, c ^^^ z, d ^^^ t] ++ m)) wr (by rw [textOf_size, hml]; omega)
        rw [textOf_data] at cn
        unfold nxtV at cn
        rw [htu] at cn
        generalize textOf (nBody (l ++ [a ^^^ x, b ^^^ y, c ^^^ z, d ^^^ t] ++ m)) = tb at cn
        generalize nUsed (l ++ [a ^^^ x, b ^^^ y, c ^^^ z, d ^^^ t] ++ m) = us at cn
        generalize textOf (l ++ [a ^^^ x, b ^^^ y, c ^^^ z, d ^^^ t] ++ m) = tL at cn hcv
        have y0 := hr.bys 0 _ rfl
        have y1 := hr.bys 1 _ rfl
        have y2 := hr.bys 2 _ rfl
        have y3 := hr.bys 3 _ rfl
        have heq := eq4 x y z t
        have hlt2 : bb < wr.heap.size := Nat.lt_trans hr.ne hr.lt
        have HBL := Lib.hid hr.below
        by_cases hno : x = 0 ∧ y = 0 ∧ z = 0 ∧ t = 0
        · rw [if_pos hno] at cn
          have hnt : noTurn x y z t = true := by unfold noTurn; exact decide_eq_true hno
          rw [hnt] at heq
          have CN := Lib.hid cn
          clear hml hmx htu cn HG HSL HLL HLEN HKK hno hnt hr
          go_wp2_with fail
          refine CN.out.mono ?_
          rintro e w4 ⟨rfl, hb4⟩
          rw [← hb4.cell (by exact hlt2)] at y0 y1 y2 y3
          have HB4 := Lib.hid hb4; clear hb4
          go_wp2_with fail
          go_ret
          exact ⟨rfl, HBL.out.trans (HB4.out.mono HBL.out.size)⟩
        · rw [if_neg hno] at cn
          have hnt : noTurn x y z t = false := by unfold noTurn; exact decide_eq_false hno
          rw [hnt] at heq
          have CN := Lib.hid cn
          clear hml hmx htu cn HG HSL HLL HLEN HKK hno hnt hr
          go_wp2_with fail
          refine CN.out.mono ?_
          rintro e w4 ⟨rfl, hb4⟩
          rw [← hb4.cell (by exact hlt2)] at y0 y1 y2 y3
          have HB4 := Lib.hid hb4; clear hb4
          go_wp2_with fail
          go_ret
          exact ⟨rfl, HBL.out.trans (HB4.out.mono HBL.out.size)⟩
  · have kb : okB b0.data.toList = false := by simpa using kb
    rw [ofT_no kb, ofE_no kb] at c1
    have C1 := Lib.hid c1; clear c1 kb hz
    go_enter Try.func6, Try.ntmps6
    go_wp2_with fail
    refine (awake_any _).mono ?_
    rintro e w0 ⟨rfl, hb0⟩
    have HB0 := Lib.hid hb0; clear hb0
    go_wp2_with fail
    refine (C1.out _).mono ?_
    rintro e w1 ⟨rfl, hb1⟩
    have HB1 := Lib.hid hb1; clear hb1
    go_wp2_with fail
    go_ret
    have hA : Below w.heap.size w w0 := ((Below.refl _ _).alloc (Nat.le_refl _) _).trans (HB0.out.mono (by simp))
    exact ⟨rfl, hA.trans (HB1.out.mono hA.size)⟩
end Go.Proofs.Ytakooppceifamaa
