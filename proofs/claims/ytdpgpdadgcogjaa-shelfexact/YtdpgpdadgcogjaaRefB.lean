/- The contract of the document's own With (hoistwayref06). -/
import Derived.Test.YtdpgpdadgcogjaaRefA
import Derived.Test.YtdpgpdadgcogjaaShA
import Derived.BigQuiet
namespace Go.Proofs.Ytdpgpdadgcogjaa
open Go.RowKit Go.Lib Plain
set_option linter.unusedVariables false

section
variable {w w' : World} {v : Value} {l m : List KV}
def enc2 (x : KV) : List Value := [.string x.1, .int .i64 x.2]
theorem flat_set : ∀ (xs : List KV) (j : Nat) (y : KV), j < xs.length → ((xs.flatMap enc2).set (j * 2) (.string y.1)).set (j * 2 + 1) (.int .i64 y.2) = (xs.set j y).flatMap enc2
  | [], j, y, h => by simp at h
  | x :: xs, 0, y, _ => by simp [List.flatMap_cons, enc2]
  | x :: xs, j + 1, y, h => by
    have ih := flat_set xs j y (by simpa using h)
    rw [List.set_cons_succ, List.flatMap_cons, List.flatMap_cons, ← ih, show (j + 1) * 2 = j * 2 + 1 + 1 by omega, show j * 2 + 1 + 1 + 1 = (j * 2 + 1) + 1 + 1 by omega]
    simp [enc2]
/-- one thing of a row is written anew -/
theorem Own.set {B g n cap j : Nat} {xs : List KV} (h : Own eR w B (.slice (some ⟨g, 0, none⟩) n cap) xs) (hj : j < xs.length) (y : KV) :
    Own eR ((w.setCell ⟨g, j * 2, none⟩ (.string y.1)).setCell ⟨g, j * 2 + 1, none⟩ (.int .i64 y.2)) B (.slice (some ⟨g, 0, none⟩) n cap) (xs.set j y) := by
  obtain ⟨hl, h2⟩ := h
  rcases h2 with ⟨h0, _⟩ | ⟨g', cap', cur, hv, hb, hg, hn, hm, hsz, htake⟩
  · cases h0
  · injection hv with e1 e2 e3
    injection e1 with e1
    injection e1 with e1 _
    subst e1; subst e3; subst e2
    have ha : At w g 68 cur := hg
    have ha2 := (ha.set (j * 2) (.string y.1)).set (j * 2 + 1) (.int .i64 y.2)
    refine ⟨by rw [flat_length], .inr ⟨g, cap, _, by rw [List.length_set], hb, ha2, by rw [List.length_set]; exact hn, hm, by simpa using hsz, ?_⟩⟩
    rw [Array.toList_setIfInBounds, Array.toList_setIfInBounds, List.length_set, List.take_set, List.take_set, htake]
    exact flat_set xs j y hj
/-- a pair, put in at a place -/
def ins (m : List KV) (k : ByteArray) (x : Int) (i : Nat) : List KV := m.take i ++ (k, x) :: m.drop i
theorem ins_length (k : ByteArray) (x : Int) (i : Nat) (hi : i ≤ m.length) : (ins m k x i).length = m.length + 1 := by
  unfold ins
  rw [List.length_append, List.length_cons, List.length_take, List.length_drop]
  omega
theorem ins_at (k : ByteArray) (x : Int) (i : Nat) (hi : i ≤ m.length) : (ins m k x i)[i]? = some (k, x) := by
  unfold ins
  rw [List.getElem?_append_right (by rw [List.length_take]; omega), List.length_take, Nat.min_eq_left hi, Nat.sub_self]
  rfl
theorem ins_before (k : ByteArray) (x : Int) (i : Nat) (hi : i < m.length) : (ins m k x (i + 1))[i]? = some m[i] := by
  unfold ins
  rw [List.getElem?_append_left (by rw [List.length_take]; omega), List.getElem?_take, if_pos (by omega), List.getElem?_eq_getElem hi]
theorem ins_swap (k : ByteArray) (x : Int) (i : Nat) (hi : i < m.length) : ((ins m k x (i + 1)).set (i + 1) m[i]).set i (k, x) = ins m k x i := by
  have e : m.drop i = m[i] :: m.drop (i + 1) := (List.getElem_cons_drop hi).symm
  have e2 : m.take (i + 1) = m.take i ++ [m[i]] := by rw [List.take_add_one, List.getElem?_eq_getElem hi]; rfl
  have l1 : (m.take i).length = i := by rw [List.length_take]; omega
  unfold ins
  rw [e, e2, List.append_assoc, List.set_append_right _ _ (by rw [l1]; omega), List.set_append_right _ _ (by rw [l1]; omega), l1, show i + 1 - i = 1 by omega, Nat.sub_self]
  rfl
theorem put_front {k : ByteArray} {x : Int} : ∀ {C : List KV}, (∀ y ∈ C, lt k y.1 = true) → put k x C = (k, x) :: C
  | [], _ => rfl
  | y :: C, h => by
    have hy := h y (List.mem_cons_self ..)
    unfold put
    rw [if_neg (by rw [lt_asymm hy]; decide), if_neg (lt_ne hy).symm]
theorem put_of_del {k : ByteArray} {x : Int} (hr : Rise l) : put k x l = put k x (del k l) := by
  refine rise_ext hr.put hr.del.put (fun j => ?_)
  rw [get_put hr, get_put hr.del, get_del]
  by_cases e : j = k
  · rw [if_pos e, if_pos e]
  · rw [if_neg e, if_neg e, if_neg e]
theorem ins_put {k : ByteArray} {x : Int} {i : Nat} (h1 : ∀ y ∈ m.take i, lt y.1 k = true) (h2 : ∀ y ∈ m.drop i, lt k y.1 = true) : put k x m = ins m k x i := by
  unfold ins
  conv => lhs; rw [← List.take_append_drop i m]
  rw [put_over h1, put_front h2]
theorem take_lt (hr : Rise m) {k : ByteArray} {i : Nat} (hi : i < m.length) (h : lt m[i].1 k = true) : ∀ y ∈ m.take (i + 1), lt y.1 k = true := by
  intro y hy
  rcases take_mem m i hi y hy with hy | rfl
  · have hs := split_at m i hi
    rw [hs] at hr
    exact lt_trans (hr.parts.2.2.1 y hy) h
  · exact h
/-- within With: the row, and where the pair stands -/
structure ISt (w wx : World) (g n cap : Nat) (m : List KV) (k : ByteArray) (x : Int) (i : Nat) : Prop where
  own : Own eR wx w.heap.size (.slice (some ⟨g, 0, none⟩) n cap) (ins m k x i)
  bel : Below w.heap.size w wx
  gt : ∀ y ∈ m.drop i, lt k y.1 = true
theorem Own.lo {α : Type} {E : El α} {B g n cap : Nat} {xs : List α} (h : Own E w B (.slice (some ⟨g, 0, none⟩) n cap) xs) : B ≤ g ∧ g < w.heap.size := h.lt rfl
theorem Own.cells2 {B g n cap j : Nat} {xs : List KV} {y : KV} (h : Own eR w B (.slice (some ⟨g, 0, none⟩) n cap) xs) (hy : xs[j]? = some y) : w.cell? ⟨g, j * 2, none⟩ = some (.string y.1) ∧ w.cell? ⟨g, j * 2 + 1, none⟩ = some (.int .i64 y.2) := by
  have hj := (List.getElem?_eq_some_iff.1 hy).1
  obtain ⟨b, off, e, _, k0, k1⟩ := h.rd.pair rfl rfl hj
  injection e with e
  injection e with e1 e2
  subst e1; subst e2
  rw [Nat.zero_add] at k0 k1
  have : xs[j] = y := by have := List.getElem?_eq_getElem hj; rw [hy] at this; injection this with this; exact this.symm
  rw [this] at k0 k1
  exact ⟨k0, k1⟩
theorem Own.unfrozen {α : Type} {E : El α} {B g n cap : Nat} {xs : List α} (h : Own E w B (.slice (some ⟨g, 0, none⟩) n cap) xs) (i : Nat) : w.frozen? ⟨g, i, none⟩ = false := by
  rcases h.2 with ⟨h0, _⟩ | ⟨g', cap', cur, hv, hb, hg, _⟩
  · cases h0
  · injection hv with e1
    injection e1 with e1
    injection e1 with e1 _
    subst e1
    exact At.frozen (t := E.e) hg i
end
section
variable {w w' : World} {v : Value} {l : List KV}
set_option maxRecDepth 100000 in
set_option maxHeartbeats 1600000 in
theorem rwith_no {room : Nat} {k : ByteArray} {x : Int} (h : Rd eR w v l) (hn : l.length ≤ 70000) (hg : get k l = none) (hroom : l.length = room) :
    Calls Try.prog 10 #[v, .int .i64 (room : Int), .string k, .int .i64 x] w fun e w' => e = .returned (.tuple #[v, .bool false]) ∧ w = w' := by
  have cg := rget_any k h hn
  rw [hg] at cg
  obtain ⟨O, cap, rfl, _⟩ := id h
  have CG := Lib.hid cg
  clear h cg hg
  rw [hroom] at CG ⊢
  clear hroom hn
  go_enter Try.func10, Try.ntmps10
  go_wp2_with (go_at_call 17; refine CG.out.mono ?_; rintro e w' ⟨rfl, rfl⟩)
  go_ret2
  exact ⟨rfl, rfl⟩
set_option maxRecDepth 100000 in
set_option maxHeartbeats 3200000 in
theorem rwith_old {room : Nat} {k : ByteArray} {x : Int} (h : Rd eR w v l) (hr : Rise l) (hn : l.length ≤ 70000) (hg : (get k l).isSome = true) :
    Calls Try.prog 10 #[v, .int .i64 (room : Int), .string k, .int .i64 x] w fun e w' => ∃ sv, e = .returned (.tuple #[sv, .bool true]) ∧ Own eR w' w.heap.size sv (put k x l) ∧ Below w.heap.size w w' := by
  have cg := rget_any k h hn
  rw [hg] at cg
  obtain ⟨O, cap, rfl, _⟩ := id h
  have CG := Lib.hid cg
  have CD := Lib.hid (rwithout_any k h hn)
  have hml : (del k l).length ≤ 70000 := Nat.le_trans (List.length_filter_le ..) hn
  have hpd := put_of_del (k := k) (x := x) hr
  have hkm : ∀ y ∈ del k l, y.1 ≠ k := fun y hy => by have := (List.mem_filter.1 hy).2; simpa using this
  have hmr : Rise (del k l) := hr.del
  rw [hpd]
  generalize del k l = m at *
  have HMR := Lib.hid hmr; have HKM := Lib.hid hkm; have HML := Lib.hid hml
  clear h cg hg hr hpd hmr hkm hml hn
  generalize (get k l).getD 0 = gn at *
  
  
  generalize l.length = L at *
  go_enter Try.func10, Try.ntmps10
  go_wp2_with fail
  refine CG.out.mono ?_
  rintro e w0 ⟨rfl, rfl⟩
  clear CG
  go_wp2_with fail
  refine CD.out.mono ?_
  rintro e w2 ⟨sv, rfl, hst⟩
  obtain ⟨rv, w3, hr3, hst3⟩ := hst.push (k, x) (by have := HML.out; omega) 28
  have hr4 : (Builtin.append_ #[28, 28] 28 #[sv, .slice (some ⟨w2.heap.size, 0, none⟩) 1 1]).run Try.prog (w2.alloc (.cells #[.string k, .int .i64 x] 68)) = .ok rv w3 := hr3
  rcases hst3.own.form with ⟨_, h0⟩ | ⟨g, cp, rfl, hcp, _, _⟩
  · simp at h0
  have hin : m ++ [(k, x)] = ins m k x m.length := by unfold ins; rw [List.take_length, List.drop_length]
  rw [List.length_append, List.length_singleton] at hst3 hr4 hcp
  obtain ⟨N, hN⟩ : ∃ N, m.length = N := ⟨_, rfl⟩
  obtain ⟨N1, hN1⟩ : ∃ N1, N + 1 = N1 := ⟨_, rfl⟩
  rw [hN, hN1] at hst3 hr4 hcp
  rw [hin, hN] at hst3
  have hi : ISt w w3 g N1 cp m k x N := ⟨hst3.own, hst3.bel, by rw [← hN, List.drop_length]; simp⟩
  have HR4 := Lib.hid hr4; have HI := Lib.hid hi; have HN := Lib.hid hN; have HN1 := Lib.hid hN1
  have hNb : N ≤ 70000 := by rw [← hN]; exact HML.out
  have f1 : IntKind.i64.wrap ((N1 : Int) - 1) = (N : Int) := by rw [IntWalk.i64_in _ (by omega)]; omega
  clear hr3 hr4 hst hst3 hin hi hcp hN hN1 CD
  go_wp2_with (at_builtin; (refine Lib.wpList_append_run _ rfl (.tmp 32) (.tmp 36) 28 28 rfl _ _ rfl rfl _ w3 HR4.out ?_))
  clear f1 HR4
  go_loopg [13] N (fun gh s13 wx => ∃ i : Nat, i ≤ N ∧ gh = i ∧ s13 = .int .i64 (i : Int) ∧ ISt w wx g N1 cp m k x i)
  case atStart => exact ⟨N, Nat.le_refl _, rfl, rfl, HI.out⟩
  case round =>
    obtain ⟨i, hi, hg, rfl, hst⟩ := hrel
    have HG := Lib.hid hg; have HST := Lib.hid hst; clear hg hst HI
    by_cases h0 : i = 0
    · subst h0
      have hp : put k x m = ins m k x 0 := ins_put (by simp) HST.out.gt
      have HP := Lib.hid hp; clear hp
      go_wp2_with fail
      go_quiet (fail)
      go_wp2_with fail
      go_ret2
      exact ⟨_, rfl, by rw [HP.out]; exact HST.out.own, below_drewN HST.out.bel _⟩
    · obtain ⟨j, rfl⟩ : ∃ j, i = j + 1 := ⟨i - 1, by omega⟩
      clear h0
      have hjm : j < m.length := by rw [HN.out]; omega
      obtain ⟨c0, c1⟩ := HST.out.own.cells2 (ins_at k x (j + 1) (by omega))
      obtain ⟨d0, d1⟩ := HST.out.own.cells2 (ins_before k x j hjm)
      have hsw := ins_swap k x j hjm
      have hdr : m.drop j = m[j] :: m.drop (j + 1) := (List.getElem_cons_drop hjm).symm
      have hne : m[j].1 ≠ k := HKM.out _ (List.getElem_mem hjm)
      have htl := fun h => take_lt HMR.out (k := k) hjm h
      generalize m[j] = z at *
      obtain ⟨i, hij⟩ : ∃ i, j + 1 = i := ⟨_, rfl⟩
      rw [hij] at c0 c1 HST hsw hdr htl hi HG ⊢
      have HIJ := Lib.hid hij
      have b0 : decide (0 < i) = true := decide_eq_true (by omega)
      have b1 : (0 : Int) < (i : Int) := by omega
      have b2 : (i : Int) < (N1 : Int) := by have := HN1.out; omega
      have b3 : (0 : Int) ≤ (i : Int) := by omega
      have b4 : (0 : Int) ≤ (j : Int) := by omega
      have b5 : (j : Int) < (N1 : Int) := by have := HN1.out; omega
      have f1 : IntKind.i64.wrap ((i : Int) - 1) = (j : Int) := by rw [IntWalk.i64_in _ (by omega)]; omega
      have HSW := Lib.hid hsw; have HDR := Lib.hid hdr; have HTL := Lib.hid htl
      cases hb : lt k z.1
      · have hz : lt z.1 k = true := by
          cases hh : lt z.1 k
          · exact absurd (lt_conn hb hh).symm hne
          · rfl
        have hp : put k x m = ins m k x i := ins_put (htl hz) HST.out.gt
        have HP := Lib.hid hp
        have hbb : Op.bytesLess k.toList z.1.toList = false := hb
        clear hp hz hsw hdr htl hne hij hb hjm
        go_wp2_with fail
        go_quiet (fail)
        go_wp2_with fail
        go_ret2
        exact ⟨_, rfl, by rw [HP.out]; exact HST.out.own, below_drewN HST.out.bel _⟩
      · have hbb : Op.bytesLess k.toList z.1.toList = true := hb
        have HB := Lib.hid hb
        clear hsw hdr htl hne hb hjm hij
        go_wp2_with fail
        go_quiet (fail)
        have st : ISt w (wr.drewN nq) g N1 cp m k x i := ⟨HST.out.own.below (below_drewN (Below.refl _ _) _), below_drewN HST.out.bel _, HST.out.gt⟩
        have c0' : (wr.drewN nq).cell? ⟨g, i * 2, none⟩ = some (.string k) := c0
        have c1' : (wr.drewN nq).cell? ⟨g, i * 2 + 1, none⟩ = some (.int .i64 x) := c1
        have d0' : (wr.drewN nq).cell? ⟨g, j * 2, none⟩ = some (.string z.1) := d0
        have d1' : (wr.drewN nq).cell? ⟨g, j * 2 + 1, none⟩ = some (.int .i64 z.2) := d1
        clear c0 c1 d0 d1 HST
        generalize wr.drewN nq = wq at *
        have y0 := st.own.unfrozen (i * 2); have y1 := st.own.unfrozen (i * 2 + 1); have y2 := st.own.unfrozen (j * 2); have y3 := st.own.unfrozen (j * 2 + 1)
        have hgl := st.own.lo.2
        have hlo := st.own.lo.1
        have ne1 : ¬ wq.heap.size = g := by omega
        have n1 : ¬ j * 2 + 1 = i * 2 := by omega
        have n2 : ¬ i * 2 = j * 2 + 1 := by omega
        have n3 : ¬ i * 2 + 1 = j * 2 := by omega
        have n4 : ¬ j * 2 = i * 2 + 1 := by omega
        have n5 : ¬ j = i := by have := HIJ.out; omega
        have n6 : ¬ i = j := by have := HIJ.out; omega
        have n7 : ¬ j * 2 = i * 2 := by omega
        have n8 : ¬ i * 2 = j * 2 := by omega
        have ST := Lib.hid st; clear st
        go_wp2_with fail
        go_roundg j
        case measure => have := HG.out; have := HIJ.out; omega
        case rel =>
          refine ⟨j, by have := HIJ.out; omega, rfl, rfl, ?_⟩
          have hil := ins_length (m := m) k x i (by rw [HN.out]; exact hi)
          have hjl := HIJ.out
          have o1 := ST.out.own.set (j := i) (by rw [hil, HN.out]; omega) z
          have o2 := o1.set (j := j) (by rw [List.length_set, hil, HN.out]; omega) (k, x)
          rw [HSW.out] at o2
          refine ⟨o2.below ((Below.refl _ _).alloc (Nat.le_refl _) _), ?_, ?_⟩
          · exact ((((ST.out.bel.setCell hlo _).setCell hlo _).setCell hlo _).setCell hlo _).alloc (by simp only [size_set]; exact ST.out.bel.size) _
          · rw [HDR.out]
            intro y hy
            rcases List.mem_cons.1 hy with rfl | hy
            · exact HB.out
            · exact ST.out.gt y hy
set_option maxRecDepth 100000 in
set_option maxHeartbeats 3200000 in
theorem rwith_new {room : Nat} {k : ByteArray} {x : Int} (h : Rd eR w v l) (hr : Rise l) (hn : l.length ≤ 70000) (hg : (get k l).isSome = false) (hlt : l.length < room) :
    Calls Try.prog 10 #[v, .int .i64 (room : Int), .string k, .int .i64 x] w fun e w' => ∃ sv, e = .returned (.tuple #[sv, .bool true]) ∧ Own eR w' w.heap.size sv (put k x l) ∧ Below w.heap.size w w' := by
  have cg := rget_any k h hn
  rw [hg] at cg
  obtain ⟨O, cap, rfl, _⟩ := id h
  have CG := Lib.hid cg
  have CD := Lib.hid (rwithout_any k h hn)
  have hml : (del k l).length ≤ 70000 := Nat.le_trans (List.length_filter_le ..) hn
  have hpd := put_of_del (k := k) (x := x) hr
  have hkm : ∀ y ∈ del k l, y.1 ≠ k := fun y hy => by have := (List.mem_filter.1 hy).2; simpa using this
  have hmr : Rise (del k l) := hr.del
  rw [hpd]
  generalize del k l = m at *
  have HMR := Lib.hid hmr; have HKM := Lib.hid hkm; have HML := Lib.hid hml
  clear h cg hg hr hpd hmr hkm hml hn
  generalize (get k l).getD 0 = gn at *
  have hnr : ¬ (room : Int) ≤ (l.length : Int) := by omega
  clear hlt
  
  
  generalize l.length = L at *
  go_enter Try.func10, Try.ntmps10
  go_wp2_with fail
  refine CG.out.mono ?_
  rintro e w0 ⟨rfl, rfl⟩
  clear CG
  go_wp2_with fail
  refine CD.out.mono ?_
  rintro e w2 ⟨sv, rfl, hst⟩
  obtain ⟨rv, w3, hr3, hst3⟩ := hst.push (k, x) (by have := HML.out; omega) 28
  have hr4 : (Builtin.append_ #[28, 28] 28 #[sv, .slice (some ⟨w2.heap.size, 0, none⟩) 1 1]).run Try.prog (w2.alloc (.cells #[.string k, .int .i64 x] 68)) = .ok rv w3 := hr3
  rcases hst3.own.form with ⟨_, h0⟩ | ⟨g, cp, rfl, hcp, _, _⟩
  · simp at h0
  have hin : m ++ [(k, x)] = ins m k x m.length := by unfold ins; rw [List.take_length, List.drop_length]
  rw [List.length_append, List.length_singleton] at hst3 hr4 hcp
  obtain ⟨N, hN⟩ : ∃ N, m.length = N := ⟨_, rfl⟩
  obtain ⟨N1, hN1⟩ : ∃ N1, N + 1 = N1 := ⟨_, rfl⟩
  rw [hN, hN1] at hst3 hr4 hcp
  rw [hin, hN] at hst3
  have hi : ISt w w3 g N1 cp m k x N := ⟨hst3.own, hst3.bel, by rw [← hN, List.drop_length]; simp⟩
  have HR4 := Lib.hid hr4; have HI := Lib.hid hi; have HN := Lib.hid hN; have HN1 := Lib.hid hN1
  have hNb : N ≤ 70000 := by rw [← hN]; exact HML.out
  have f1 : IntKind.i64.wrap ((N1 : Int) - 1) = (N : Int) := by rw [IntWalk.i64_in _ (by omega)]; omega
  clear hr3 hr4 hst hst3 hin hi hcp hN hN1 CD
  go_wp2_with (at_builtin; (refine Lib.wpList_append_run _ rfl (.tmp 32) (.tmp 36) 28 28 rfl _ _ rfl rfl _ w3 HR4.out ?_))
  clear f1 HR4
  go_loopg [13] N (fun gh s13 wx => ∃ i : Nat, i ≤ N ∧ gh = i ∧ s13 = .int .i64 (i : Int) ∧ ISt w wx g N1 cp m k x i)
  case atStart => exact ⟨N, Nat.le_refl _, rfl, rfl, HI.out⟩
  case round =>
    obtain ⟨i, hi, hg, rfl, hst⟩ := hrel
    have HG := Lib.hid hg; have HST := Lib.hid hst; clear hg hst HI
    by_cases h0 : i = 0
    · subst h0
      have hp : put k x m = ins m k x 0 := ins_put (by simp) HST.out.gt
      have HP := Lib.hid hp; clear hp
      go_wp2_with fail
      go_quiet (fail)
      go_wp2_with fail
      go_ret2
      exact ⟨_, rfl, by rw [HP.out]; exact HST.out.own, below_drewN HST.out.bel _⟩
    · obtain ⟨j, rfl⟩ : ∃ j, i = j + 1 := ⟨i - 1, by omega⟩
      clear h0
      have hjm : j < m.length := by rw [HN.out]; omega
      obtain ⟨c0, c1⟩ := HST.out.own.cells2 (ins_at k x (j + 1) (by omega))
      obtain ⟨d0, d1⟩ := HST.out.own.cells2 (ins_before k x j hjm)
      have hsw := ins_swap k x j hjm
      have hdr : m.drop j = m[j] :: m.drop (j + 1) := (List.getElem_cons_drop hjm).symm
      have hne : m[j].1 ≠ k := HKM.out _ (List.getElem_mem hjm)
      have htl := fun h => take_lt HMR.out (k := k) hjm h
      generalize m[j] = z at *
      obtain ⟨i, hij⟩ : ∃ i, j + 1 = i := ⟨_, rfl⟩
      rw [hij] at c0 c1 HST hsw hdr htl hi HG ⊢
      have HIJ := Lib.hid hij
      have b0 : decide (0 < i) = true := decide_eq_true (by omega)
      have b1 : (0 : Int) < (i : Int) := by omega
      have b2 : (i : Int) < (N1 : Int) := by have := HN1.out; omega
      have b3 : (0 : Int) ≤ (i : Int) := by omega
      have b4 : (0 : Int) ≤ (j : Int) := by omega
      have b5 : (j : Int) < (N1 : Int) := by have := HN1.out; omega
      have f1 : IntKind.i64.wrap ((i : Int) - 1) = (j : Int) := by rw [IntWalk.i64_in _ (by omega)]; omega
      have HSW := Lib.hid hsw; have HDR := Lib.hid hdr; have HTL := Lib.hid htl
      cases hb : lt k z.1
      · have hz : lt z.1 k = true := by
          cases hh : lt z.1 k
          · exact absurd (lt_conn hb hh).symm hne
          · rfl
        have hp : put k x m = ins m k x i := ins_put (htl hz) HST.out.gt
        have HP := Lib.hid hp
        have hbb : Op.bytesLess k.toList z.1.toList = false := hb
        clear hp hz hsw hdr htl hne hij hb hjm
        go_wp2_with fail
        go_quiet (fail)
        go_wp2_with fail
        go_ret2
        exact ⟨_, rfl, by rw [HP.out]; exact HST.out.own, below_drewN HST.out.bel _⟩
      · have hbb : Op.bytesLess k.toList z.1.toList = true := hb
        have HB := Lib.hid hb
        clear hsw hdr htl hne hb hjm hij
        go_wp2_with fail
        go_quiet (fail)
        have st : ISt w (wr.drewN nq) g N1 cp m k x i := ⟨HST.out.own.below (below_drewN (Below.refl _ _) _), below_drewN HST.out.bel _, HST.out.gt⟩
        have c0' : (wr.drewN nq).cell? ⟨g, i * 2, none⟩ = some (.string k) := c0
        have c1' : (wr.drewN nq).cell? ⟨g, i * 2 + 1, none⟩ = some (.int .i64 x) := c1
        have d0' : (wr.drewN nq).cell? ⟨g, j * 2, none⟩ = some (.string z.1) := d0
        have d1' : (wr.drewN nq).cell? ⟨g, j * 2 + 1, none⟩ = some (.int .i64 z.2) := d1
        clear c0 c1 d0 d1 HST
        generalize wr.drewN nq = wq at *
        have y0 := st.own.unfrozen (i * 2); have y1 := st.own.unfrozen (i * 2 + 1); have y2 := st.own.unfrozen (j * 2); have y3 := st.own.unfrozen (j * 2 + 1)
        have hgl := st.own.lo.2
        have hlo := st.own.lo.1
        have ne1 : ¬ wq.heap.size = g := by omega
        have n1 : ¬ j * 2 + 1 = i * 2 := by omega
        have n2 : ¬ i * 2 = j * 2 + 1 := by omega
        have n3 : ¬ i * 2 + 1 = j * 2 := by omega
        have n4 : ¬ j * 2 = i * 2 + 1 := by omega
        have n5 : ¬ j = i := by have := HIJ.out; omega
        have n6 : ¬ i = j := by have := HIJ.out; omega
        have n7 : ¬ j * 2 = i * 2 := by omega
        have n8 : ¬ i * 2 = j * 2 := by omega
        have ST := Lib.hid st; clear st
        go_wp2_with fail
        go_roundg j
        case measure => have := HG.out; have := HIJ.out; omega
        case rel =>
          refine ⟨j, by have := HIJ.out; omega, rfl, rfl, ?_⟩
          have hil := ins_length (m := m) k x i (by rw [HN.out]; exact hi)
          have hjl := HIJ.out
          have o1 := ST.out.own.set (j := i) (by rw [hil, HN.out]; omega) z
          have o2 := o1.set (j := j) (by rw [List.length_set, hil, HN.out]; omega) (k, x)
          rw [HSW.out] at o2
          refine ⟨o2.below ((Below.refl _ _).alloc (Nat.le_refl _) _), ?_, ?_⟩
          · exact ((((ST.out.bel.setCell hlo _).setCell hlo _).setCell hlo _).setCell hlo _).alloc (by simp only [size_set]; exact ST.out.bel.size) _
          · rw [HDR.out]
            intro y hy
            rcases List.mem_cons.1 hy with rfl | hy
            · exact HB.out
            · exact ST.out.gt y hy
/-- the document's own With -/
theorem rwith_any {room : Nat} {k : ByteArray} {x : Int} (h : Rd eR w v l) (hr : Rise l) (hn : l.length ≤ 70000) (hroom : l.length ≤ room) :
    Calls Try.prog 10 #[v, .int .i64 (room : Int), .string k, .int .i64 x] w fun e w' => ∃ sv, e = .returned (.tuple #[sv, .bool (wok room k l)]) ∧ Rd eR w' sv (wput room k x l) ∧ Below w.heap.size w w' := by
  unfold wput
  cases hg : (get k l).isSome
  · by_cases hl : l.length = room
    · have ew : wok room k l = false := by unfold wok; rw [hg]; simp [hl]
      rw [ew]
      have hg2 : get k l = none := by cases hh : get k l with
        | none => rfl
        | some y => rw [hh] at hg; cases hg
      refine (rwith_no h hn hg2 hl).mono ?_
      rintro e w' ⟨rfl, rfl⟩
      exact ⟨v, rfl, h, Below.refl _ _⟩
    · have ew : wok room k l = true := by unfold wok; simp [hl]
      rw [ew]
      refine (rwith_new h hr hn hg (by omega)).mono ?_
      rintro e w' ⟨sv, rfl, ho, hb⟩
      exact ⟨sv, rfl, ho.rd, hb⟩
  · have ew : wok room k l = true := by unfold wok; rw [hg]; rfl
    rw [ew]
    refine (rwith_old h hr hn hg).mono ?_
    rintro e w' ⟨sv, rfl, ho, hb⟩
    exact ⟨sv, rfl, ho.rd, hb⟩
end
end Go.Proofs.Ytdpgpdadgcogjaa
