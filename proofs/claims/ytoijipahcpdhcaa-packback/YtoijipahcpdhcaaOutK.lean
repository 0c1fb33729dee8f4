/- Num once more: what stood there before still stands, as the old slice sees it. -/
import Derived.Test.YtoijipahcpdhcaaListA
import Derived.Deep.RegionLaw
namespace Go.Proofs.Ytoijipahcpdhcaa
open Go.RowKit Go.Lib Plain

section
variable (w : World)
theorem run_append_byte (ty : TypeId) {B : Nat} {v : Value} {bs : List UInt8} (hown : Own w B v bs) {g0 : Nat} {b : UInt8} (hg0 : At w g0 5 #[.int .u8 (b.toNat : Int)]) (hn : bs.length ≤ 1099511627800) (hB : B ≤ w.heap.size) :
    ∃ g cap w', (Builtin.append_ #[25, 25] ty #[v, .slice (some ⟨g0, 0, none⟩) 1 1]).run Try.prog w = .ok (.slice (some ⟨g, 0, none⟩) (bs.length + 1) cap) w' ∧
      Own w' B (.slice (some ⟨g, 0, none⟩) (bs.length + 1) cap) (bs ++ [b]) ∧ w.grownBy w' v.ownBlock ∧ (v.ownBlock = some g ∨ g = w.heap.size) ∧ Own w' B v bs := by
  obtain ⟨i0, hi0, hz0, hz1, hz2⟩ := info_parts info5
  have hc := World.news_of_block hg0
  obtain ⟨g, cap, w', hr, h2, h3, h4, _⟩ := run_append_lies (P := Try.prog) w 25 ty B 5 i0 _ 1 1 Try.underlying25 hi0 hz0 hz1 hz2 rfl (by omega) v bs.length (byteCells bs) hown ⟨g0, 0, none⟩ 1 1 [.int .u8 (b.toNat : Int)] rfl hc (by simp [Value.oneCell']) (by omega) (by unfold maxLen; omega) (by omega) hB _ rfl
  refine ⟨g, cap, w', hr, ?_, h3, h4, ?_⟩
  · unfold Own; rw [byteCells_append, List.length_append]; exact h2
  · rcases hown.2 with ⟨rfl, h0⟩ | ⟨g', cap', cur, rfl, hbg, hg, hnc, hcm, hcs, htake⟩
    · have : bs = [] := List.eq_nil_of_length_eq_zero h0
      subst this
      exact World.ownsRow_nil _ _ _ _
    · by_cases hroom : bs.length + 1 ≤ cap'
      · have hl : ([.int .u8 (b.toNat : Int)] : List Value).length = 1 * i0.size := by rw [hz1]; rfl
        have hfit : bs.length * i0.size + ([.int .u8 (b.toNat : Int)] : List Value).length ≤ cur.size := by rw [hz1, hcs]; simp; omega
        have hr' := run_append_room (P := Try.prog) w 25 ty 5 i0 Try.underlying25 hi0 g' bs.length cap' cur hg ⟨g0, 0, none⟩ 1 1 [.int .u8 (b.toNat : Int)] hl hc (by simp [Value.oneCell']) hroom hfit
        rw [hr'] at hr
        injection hr with _ hw
        subst hw
        refine ⟨hown.1, .inr ⟨g', cap', _, rfl, hbg, setRow_heap w g' cur _ 5 _ hg, hnc, hcm, ?_, ?_⟩⟩
        · rw [hz1] at hfit ⊢
          simp only [List.size_toArray, List.length_append, List.length_take, List.length_drop, Array.length_toList] at hfit ⊢
          omega
        · rw [hz1]
          have e1 : (cur.toList.take (bs.length * 1)).length = bs.length * 1 := by rw [htake, byteCells_length]; omega
          rw [List.append_assoc, List.take_append_of_le_length (by omega), List.take_take]
          simpa using htake
      · have hr' := run_append_grow (P := Try.prog) w 25 ty 5 i0 _ Try.underlying25 hi0 hz0 ⟨g', 0, none⟩ bs.length cap' (byteCells bs) (by rw [hz1]; exact hown.1) (hown.cells (g := g') rfl) ⟨g0, 0, none⟩ 1 1 [.int .u8 (b.toNat : Int)] (by rw [hz1]; rfl) hc (by omega) (by omega) (by rw [hz2]; exact growslice_fits (by omega) (by omega))
        rw [hr'] at hr
        injection hr with _ hw
        subst hw
        exact World.ownsRow.alloc (World.ownsRow.drew hown) _
theorem step_append_byte {ops : Array Oper} {o : Oper} {a : Go.Act} {K : Go.Act → World → Prop} {Q : Exit → Go.Act → World → Prop} {E : Prop} (hgd : o.guard = none) (s x : Operand)
    (ho : o.op = .call { callee := .builtin .append, args := #[s, x], argTypes := #[25, 25] })
    (B : Nat) (v : Value) (bs : List UInt8) (hs : a.eval s = v) (hown : Own w B v bs) (g0 : Nat) (b : UInt8) (hx : a.eval x = .slice (some ⟨g0, 0, none⟩) 1 1) (hg0 : At w g0 5 #[.int .u8 (b.toNat : Int)]) (hn : bs.length ≤ 1099511627800) (hB : B ≤ w.heap.size) (H : Nat) (hH : w.heap.size = H)
    (h : ∀ g cap w', Own w' B (.slice (some ⟨g, 0, none⟩) (bs.length + 1) cap) (bs ++ [b]) → w.grownBy w' v.ownBlock → (v.ownBlock = some g ∨ g = H) → Own w' B v bs → K (a.put o.dst (.slice (some ⟨g, 0, none⟩) (bs.length + 1) cap)) w') :
    if Region.wanted o (yielded ops a.tmps) = true then Oper.wp Try.prog o a w K Q else E := by
  have hw : Region.wanted o (yielded ops a.tmps) = true := by simp [Region.wanted, hgd]
  rw [if_pos hw]
  subst hH
  obtain ⟨g, cap, w', hr, h2, h3, h4, h5⟩ := run_append_byte w o.type hown hg0 hn hB
  unfold Oper.wp execOp
  simp only [ho, resolve, invoke, builtin, Sem.run_bind, Sem.run_pure, Result.andThen_ok, List.map_toArray, List.map_cons, List.map_nil, hs, hx, hr]
  exact h g cap w' h2 h3 h4 h5
end
/-- an older slice of the same row sees what it saw -/
theorem own_prefix {w w' : World} {B : Nat} {v v1 : Value} {bs pre : List UInt8} (h : Own w B v bs) (h1 : Own w B v1 (bs ++ pre)) (hgr : w.grownBy w' v1.ownBlock) (h1' : Own w' B v1 (bs ++ pre)) : Own w' B v bs := by
  rcases h.2 with ⟨rfl, h0⟩ | ⟨g, cap, cur, rfl, hbg, hg, hnc, hcm, hcs, htake⟩
  · have : bs = [] := List.eq_nil_of_length_eq_zero h0
    subst this
    exact World.ownsRow_nil _ _ _ _
  · by_cases he : v1.ownBlock = some g
    · rcases h1.2 with ⟨rfl, _⟩ | ⟨g1, cap1, cur1, hv1, _, hg1, _, _, hcs1, _⟩
      · simp [Value.ownBlock] at he
      · subst hv1
        have eg : g1 = g := by simpa [Value.ownBlock] using he
        subst eg
        rw [hg] at hg1
        injection hg1 with hg1
        injection hg1 with hg1
        subst hg1
        have ec : cap1 = cap := by omega
        subst ec
        rcases h1'.2 with ⟨e9, _⟩ | ⟨g2, cap2, cur2, hv2, _, hg2, _, _, hcs2, ht2⟩
        · cases e9
        · injection hv2 with e1 e2 e3
          injection e1 with e1
          injection e1 with e1
          subst e1 e3
          refine ⟨h.1, .inr ⟨g1, cap1, cur2, rfl, hbg, hg2, hnc, hcm, hcs2, ?_⟩⟩
          have e5 : cur2.toList.take (bs.length * 1) = (cur2.toList.take ((bs ++ pre).length * 1)).take (bs.length * 1) := by
            rw [List.take_take]; congr 1; rw [List.length_append]; omega
          rw [e5, ht2, byteCells_append, List.take_append_of_le_length (by rw [byteCells_length]; omega), List.take_of_length_le (by rw [byteCells_length]; omega)]
    · exact World.ownsRow.kept h hgr (.inr (fun e9 => he e9.symm))
theorem own_setCell {w : World} {B p : Nat} {v v1 u : Value} {bs : List UInt8} (h : Own w B v bs) (hp : At w p 27 #[v1]) : Own (w.setCell ⟨p, 0, none⟩ u) B v bs :=
  ownsRow_setCell_other h (a := ⟨p, 0, none⟩) (own_ne h hp (by decide)) _

set_option maxRecDepth 100000 in
set_option maxHeartbeats 1600000 in
theorem put_keep (B p k : Nat) (v : Value) (bs : List UInt8) (n : Int) (w : World) (ho : Out w B p v bs) (hB : B ≤ w.heap.size) (hk : k ≤ 8) (h0 : 0 ≤ n) (hl : bs.length ≤ 1099511627776) :
    Calls Try.prog 30 #[.pointer (some ⟨p, 0, none⟩), .int .i64 k, .int .i64 n] w fun e w' => e = .returned (.tuple #[]) ∧ Wrote w B p v (bs ++ enc k n.toNat) w' ∧ Own w' B v bs := by
  go_enter Try.func30, Try.ntmps30
  go_wp2_with fail
  go_loopg [1] k (fun g s wx => ∃ (j : Nat) (pre : List UInt8) (v1 : Value), j ≤ k ∧ g = j ∧ s = .int .i64 (j : Int) ∧ pre ++ enc j n.toNat = enc k n.toNat ∧ Out wx B p v1 (bs ++ pre) ∧ Chg w wx (outSet p v) ∧ Lies w v v1 ∧ Own wx B v bs)
  case atStart => exact ⟨k, [], v, Nat.le_refl _, rfl, rfl, by simp, by simpa using ho, Chg.refl _ _, Lies.refl _ _, ho.own⟩
  case round =>
    obtain ⟨j, pre, v1, hj, hg, rfl, hpre, ho1, hc, hls, hkp⟩ := hrel
    have HG := Lib.hid hg; have HP := Lib.hid hpre; have HKP := Lib.hid hkp; clear hg hpre hkp
    by_cases hlt : 0 < j
    · obtain ⟨i, rfl⟩ : ∃ i, j = i + 1 := ⟨j - 1, by omega⟩
      have hi8 : i ≤ 7 := by omega
      have lp := ho1.at_.lt
      have nv := ho1.ne
      have c1 : wr.cell? ⟨p, 0, none⟩ = some v1 := by rw [ho1.at_.cell]; rfl
      have f1 := ho1.at_.frozen 0
      have hs := hc.size
      have e1 : IntKind.i64.wrap (8 * (i : Int)) = 8 * (i : Int) := IntWalk.i64_in _ (by omega)
      have e2 : (0 : Int) ≤ 8 * (i : Int) := by omega
      have e3 : min (8 * (i : Int)).toNat 64 = (8 * (i : Int)).toNat := by omega
      have e4 := byte_shr n i h0
      obtain ⟨b, hb⟩ : ∃ b : UInt8, b = UInt8.ofNat (n.toNat / 256 ^ i) := ⟨_, rfl⟩
      rw [← hb] at e4
      have HB := Lib.hid hb; clear hb
      have hnew : ∀ o : Obj, (wr.alloc o).frozen? ⟨p, 0, none⟩ = false := fun o => by rw [World.frozen?_alloc_past _ _ _ lp]; exact f1
      have HL : (bs ++ pre).length ≤ 1099511627790 := by
        have := congrArg List.length HP.out
        rw [List.length_append, enc_length, enc_length] at this
        rw [List.length_append]; omega
      have H6 := Lib.hid HL; clear HL
      obtain ⟨bp, hbp⟩ : ∃ bp, bs ++ pre = bp := ⟨_, rfl⟩
      rw [hbp] at ho1 H6
      have HBP := Lib.hid hbp; clear hbp
      have HO1 := Lib.hid ho1; clear ho1
      go_wp2_with fail
      go_region_law (refine step_append_byte _ (by rfl) _ _ (by rfl) B v1 bp (by rfl) ((World.ownsRow.alloc HO1.out.own _).drew) wr.heap.size b (by rfl) (At.drew (At.new wr 5 _)) (by have := H6.out; omega) (by simp; omega) (wr.heap.size + 1) (by simp) ?_; intro gg cap w1 hown1 hgrow hat hkeep; have k1 : w1.cell? ⟨p, 0, none⟩ = some v1 := (by rw [hgrow.cell_far _ (by simp; omega) (Ne.symm nv)]; simp [World.cell?_alloc_past _ _ _ lp]; exact c1); have k2 : w1.frozen? ⟨p, 0, none⟩ = false := (by rw [hgrow.frozen_far _ (by simp; omega) (Ne.symm nv)]; simp [hnew]))
      all_goals
        go_wp2
        go_roundg i
        case measure => have := HG.out; omega
        case rel =>
          have R := out_stored (v' := .slice (some ⟨gg, 0, none⟩) (bp.length + 1) cap) (bq := bp ++ [b]) HO1.out (((Chg.refl wr (fun _ => False)).alloc _).drew) hgrow hown1 (hat.elim (fun h => .inl h.symm) (fun h => .inr ⟨gg, rfl, by omega⟩))
          have hold : Own w1 B v bs := own_prefix (w := (wr.alloc (.cells #[.int .u8 (b.toNat : Int)] 5)).drew) (v1 := v1) (pre := pre) ((World.ownsRow.alloc HKP.out _).drew) (by rw [HBP.out]; exact (World.ownsRow.alloc HO1.out.own _).drew) hgrow (by rw [HBP.out]; exact hkeep)
          have hat1 : At w1 p 27 #[v1] := HO1.out.at_.chg ((((Chg.refl wr (fun k => v1.ownBlock = some k)).alloc _).drew).trans (Chg.grown hgrow) (fun _ _ h => h)) HO1.out.ne
          exact ⟨i, pre ++ [b], _, by omega, rfl, rfl, by have := HP.out; rw [enc, ← HB.out] at this; simpa using this, by rw [← List.append_assoc, HBP.out]; exact R.1, hc.trans R.2.1 (fun k hk hs => outSet_lies hls hk hs), hls.trans R.2.2 hc.size, own_setCell hold hat1⟩
    · obtain rfl : j = 0 := by omega
      go_wp2_with fail
      go_end0
      exact ⟨rfl, ⟨v1, by have := HP.out; simp only [enc, List.append_nil] at this; rw [← this]; exact ho1, hc, hls⟩, HKP.out⟩
end Go.Proofs.Ytoijipahcpdhcaa
