/- The contracts of pack.isWidth, pack.fits and (*pack.Out).put. -/
import Derived.Test.YtdgafpkigajgeaaMem
import Derived.Deep.RegionLaw
namespace Go.Proofs.Ytdgafpkigajgeaa
open Go.RowKit Go.Lib Plain

theorem ret_bool {a b : Bool} (h : a = b) : Ending.returned (.bool a) = .returned (.bool b) := by rw [h]
set_option maxHeartbeats 400000 in
theorem isWidth_any (n : Int) (w : World) : Calls Try.prog 36 #[.int .i64 n] w fun e w' => e = .returned (.bool (wide n)) ∧ w = w' := by
  go_enter Try.func36, Try.ntmps36
  go_wp2
  all_goals go_ret
  all_goals exact ⟨ret_bool (by unfold wide; simp [*]), rfl⟩
theorem isWidth_yes (n : Int) (w : World) (h : wide n = true) : Calls Try.prog 36 #[.int .i64 n] w fun e w' => e = .returned (.bool true) ∧ w = w' := by
  have := isWidth_any n w; rw [h] at this; exact this
theorem isWidth_no (n : Int) (w : World) (h : wide n = false) : Calls Try.prog 36 #[.int .i64 n] w fun e w' => e = .returned (.bool false) ∧ w = w' := by
  have := isWidth_any n w; rw [h] at this; exact this

theorem fits_eq (wd n : Int) (h : wide wd = true) (h0 : 0 ≤ n) (h1 : n ≤ 9223372036854775807) : (n / 2 ^ (8 * wd).toNat == 0) = fit wd n := by
  obtain ⟨m, rfl⟩ := Int.eq_ofNat_of_zero_le h0
  rw [wide_iff] at h
  unfold fit
  rcases h with rfl | rfl | rfl | rfl <;> simp <;> rw [Bool.eq_iff_iff] <;> simp <;> omega
set_option maxHeartbeats 400000 in
theorem fits_any (wd n : Int) (w : World) (h : wide wd = true) (h1 : n ≤ 9223372036854775807) (h2 : -9223372036854775808 ≤ n) : Calls Try.prog 37 #[.int .i64 wd, .int .i64 n] w fun e w' => e = .returned (.bool (fit wd n)) ∧ w = w' := by
  have hw := (wide_iff wd).1 h
  by_cases h0 : 0 ≤ n
  · have hf := fits_eq wd n h h0 h1
    have H := Lib.hid hf; have HW := Lib.hid h; clear hf h
    have b1 : 1 ≤ wd := by omega
    have b2 : wd ≤ 8 := by omega
    have HH := Lib.hid hw; clear hw
    go_enter Try.func37, Try.ntmps37
    go_wp2
    go_ret
    exact ⟨ret_bool (by rw [← H.out]), rfl⟩
  · have hf : fit wd n = false := by unfold fit; simp; omega
    have H := Lib.hid hf; clear hf
    clear hw h
    go_enter Try.func37, Try.ntmps37
    go_wp2
    go_ret
    exact ⟨ret_bool (by rw [H.out]), rfl⟩

/-- an Out at block p: its one field holds v, which owns the bytes bs -/
structure Out (w : World) (B p : Nat) (v : Value) (bs : List UInt8) : Prop where
  at_ : At w p 56 #[v]
  own : Own w B v bs
  le : B ≤ p
theorem Out.ne {w : World} {B p : Nat} {v : Value} {bs : List UInt8} (h : Out w B p v bs) : v.ownBlock ≠ some p := own_ne h.own h.at_ (by decide)
/-- what a call may have turned that writes on an Out -/
def outSet (p : Nat) (v : Value) (k : Nat) : Prop := k = p ∨ v.ownBlock = some k
/-- behind a call that wrote: the Out holds bs -/
def Wrote (w : World) (B p : Nat) (v : Value) (bs : List UInt8) (w' : World) : Prop := ∃ v', Out w' B p v' bs ∧ Chg w w' (outSet p v) ∧ Lies w v v'
theorem Wrote.refl {w : World} {B p : Nat} {v : Value} {bs : List UInt8} (h : Out w B p v bs) : Wrote w B p v bs w := ⟨v, h, Chg.refl _ _, Lies.refl _ _⟩
theorem outSet_lies {w : World} {p : Nat} {v v' : Value} (h : Lies w v v') {k : Nat} (hk : k < w.heap.size) (hs : outSet p v' k) : outSet p v k := by
  rcases hs with hs | hs
  · exact .inl hs
  · exact .inr (h.old hs hk)
theorem Wrote.trans {w w1 w2 : World} {B p : Nat} {v v1 : Value} {bs : List UInt8} (hc : Chg w w1 (outSet p v)) (hl : Lies w v v1) (h2 : Wrote w1 B p v1 bs w2) : Wrote w B p v bs w2 := by
  obtain ⟨v2, ho, hc2, hl2⟩ := h2
  exact ⟨v2, ho, hc.trans hc2 (fun i hi hs => outSet_lies hl hi hs), hl.trans hl2 hc.size⟩

theorem out_stored {wr wa w1 : World} {B p : Nat} {v1 v' : Value} {bp bq : List UInt8} (ho : Out wr B p v1 bp) (ha : Chg wr wa (fun _ => False)) (hgrow : wa.grownBy w1 v1.ownBlock) (hown : Own w1 B v' bq)
    (hl : v'.ownBlock = v1.ownBlock ∨ ∃ g, v'.ownBlock = some g ∧ wr.heap.size ≤ g) :
    Out (w1.setCell ⟨p, 0, none⟩ v') B p v' bq ∧ Chg wr (w1.setCell ⟨p, 0, none⟩ v') (outSet p v1) ∧ Lies wr v1 v' := by
  have hc1 : Chg wr w1 (fun k => v1.ownBlock = some k) := (ha.mono (T := fun k => v1.ownBlock = some k) (fun _ _ h => h.elim)).trans (Chg.grown hgrow) (fun _ _ h => h)
  have hc : Chg wr w1 (outSet p v1) := hc1.mono (fun _ _ hs => .inr hs)
  have ha1 : At w1 p 56 #[v1] := ho.at_.chg hc1 ho.ne
  have hne : v'.ownBlock ≠ some p := own_ne hown ha1 (by decide)
  refine ⟨⟨by simpa using ha1.set 0 v', ?_, ho.le⟩, hc.set (fun _ => .inl rfl) _, hl⟩
  exact ownsRow_setCell_other hown (a := ⟨p, 0, none⟩) hne _

theorem byte_shr (n : Int) (j : Nat) (h0 : 0 ≤ n) : IntKind.u8.wrap (n / 2 ^ (8 * (j : Int)).toNat) = ((UInt8.ofNat (n.toNat / 256 ^ j)).toNat : Int) := by
  obtain ⟨m, rfl⟩ := Int.eq_ofNat_of_zero_le h0
  have e : (8 * (j : Int)).toNat = 8 * j := by omega
  have e2 : (2 : Int) ^ (8 * j) = ((256 ^ j : Nat) : Int) := by rw [Int.pow_mul]; simp
  rw [e, e2, Int.toNat_natCast, ← Int.natCast_ediv, IntKind.wrap_u8', UInt8.toNat_ofNat']
  omega

set_option maxRecDepth 100000 in
set_option maxHeartbeats 1600000 in
theorem put_any (B p k : Nat) (v : Value) (bs : List UInt8) (n : Int) (w : World) (ho : Out w B p v bs) (hB : B ≤ w.heap.size) (hk : k ≤ 8) (h0 : 0 ≤ n) (h1 : n ≤ 9223372036854775807) (hl : bs.length ≤ 1099511627776) :
    Calls Try.prog 38 #[.pointer (some ⟨p, 0, none⟩), .int .i64 k, .int .i64 n] w fun e w' => e = .returned (.tuple #[]) ∧ Wrote w B p v (bs ++ enc k n.toNat) w' := by
  obtain ⟨i0, hi0, hz0, hz1, hz2⟩ := info_parts info5
  have HZ0 := Lib.hid hz0; have HZ1 := Lib.hid hz1; have HZ2 := Lib.hid hz2; have HI := Lib.hid hi0; clear hz0 hz1 hz2 hi0
  go_enter Try.func38, Try.ntmps38
  go_wp2_with fail
  go_loopg [1] k (fun g s wx => ∃ (j : Nat) (pre : List UInt8) (v1 : Value), j ≤ k ∧ g = j ∧ s = .int .i64 (j : Int) ∧ pre ++ enc j n.toNat = enc k n.toNat ∧ Out wx B p v1 (bs ++ pre) ∧ Chg w wx (outSet p v) ∧ Lies w v v1)
  case atStart => exact ⟨k, [], v, Nat.le_refl _, rfl, rfl, by simp, by simpa using ho, Chg.refl _ _, Lies.refl _ _⟩
  case round =>
    obtain ⟨j, pre, v1, hj, hg, rfl, hpre, ho1, hc, hls⟩ := hrel
    have HG := Lib.hid hg; have HP := Lib.hid hpre; clear hg hpre
    by_cases hlt : 0 < j
    · obtain ⟨i, rfl⟩ : ∃ i, j = i + 1 := ⟨j - 1, by omega⟩
      have hi8 : i ≤ 7 := by omega
      have lp := ho1.at_.lt
      have nv := ho1.ne
      have c1 : wr.cell? ⟨p, 0, none⟩ = some v1 := by rw [ho1.at_.cell]; rfl
      have f1 := ho1.at_.frozen 0
      have hs := hc.size
      have e1 : IntKind.i64.wrap (8 * (i : Int)) = 8 * (i : Int) := IntWalk.i64_in _ (by omega)
      have e2 : (0 : Int) ≤ 8 * (i : Int) := by omega
      have e3 : min (8 * (i : Int)).toNat 64 = (8 * (i : Int)).toNat := by omega
      have e4 := byte_shr n i h0
      obtain ⟨b, hb⟩ : ∃ b : UInt8, b = UInt8.ofNat (n.toNat / 256 ^ i) := ⟨_, rfl⟩
      rw [← hb] at e4
      have HB := Lib.hid hb; clear hb
      have hnew : ∀ o : Obj, (wr.alloc o).frozen? ⟨p, 0, none⟩ = false := fun o => by rw [World.frozen?_alloc_past _ _ _ lp]; exact f1
      have HL : (bs ++ pre).length + 1 ≤ 1099511627800 := by
        have := congrArg List.length HP.out
        rw [List.length_append, enc_length, enc_length] at this
        rw [List.length_append]; omega
      have H6 := Lib.hid HL; clear HL
      generalize hbp : bs ++ pre = bp at ho1 H6
      have HBP := Lib.hid hbp; clear hbp
      go_wp2_with fail
      go_region_law (refine step_append_lies _ (by rfl) _ _ _ (by rfl) B 5 i0 _ 1 1 Try.underlying54 HI.out HZ0.out HZ1.out HZ2.out rfl (by omega) v1 _ _ (by rfl) ((World.ownsRow.alloc ho1.own _).drew) ⟨wr.heap.size, 0, none⟩ 1 1 [.int .u8 (b.toNat : Int)] (by rfl) (by rfl) (World.news_of_block (cs := #[.int .u8 (b.toNat : Int)]) (t := 5) (fr := (0, 0)) (heap_alloc_new wr _)) (by simp [Value.oneCell']) (by omega) (by have := H6.out; unfold maxLen; omega) (by have := H6.out; omega) (by simp; omega) (wr.heap.size + 1) (by simp) ?_; intro gg cap w1 hown1 hgrow hat hlt1; have k1 : w1.cell? ⟨p, 0, none⟩ = some v1 := (by rw [hgrow.cell_far _ (by simp; omega) (Ne.symm nv)]; simp [World.cell?_alloc_past _ _ _ lp]; exact c1); have k2 : w1.frozen? ⟨p, 0, none⟩ = false := (by rw [hgrow.frozen_far _ (by simp; omega) (Ne.symm nv)]; simp [hnew]))
      all_goals
        go_wp2
        go_roundg i
        case measure => have := HG.out; omega
        case rel =>
          have R := out_stored (v' := .slice (some ⟨gg, 0, none⟩) (bp.length + 1) cap) (bq := bp ++ [b]) ho1 (((Chg.refl wr (fun _ => False)).alloc _).drew) hgrow (by unfold Own; rw [byteCells_append, List.length_append]; exact hown1) (hat.elim (fun h => .inl h.symm) (fun h => .inr ⟨gg, rfl, by omega⟩))
          exact ⟨i, pre ++ [b], _, by omega, rfl, rfl, by have := HP.out; rw [enc, ← HB.out] at this; simpa using this, by rw [← List.append_assoc, HBP.out]; exact R.1, hc.trans R.2.1 (fun k hk hs => outSet_lies hls hk hs), hls.trans R.2.2 hc.size⟩
    · obtain rfl : j = 0 := by omega
      go_wp2_with fail
      go_end0
      exact ⟨rfl, v1, by have := HP.out; simp only [enc, List.append_nil] at this; rw [← this]; exact ho1, hc, hls⟩
end Go.Proofs.Ytdgafpkigajgeaa
