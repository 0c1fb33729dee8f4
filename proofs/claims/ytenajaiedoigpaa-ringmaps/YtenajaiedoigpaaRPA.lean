/- The contracts of New, Len, Room, at, settle and row of rings of pairs. -/
import Derived.Test.YtenajaiedoigpaaRngMem
import Derived.BigQuiet
import Derived.Laws.MakeOwn
namespace Go.Proofs.Ytenajaiedoigpaa.RP
open Go.RowKit Go.Lib Plain

set_option maxHeartbeats 400000 in
theorem new_any (w : World) (room : Nat) (h1 : 1 ≤ room) (h2 : room ≤ 65536) :
    Calls Try.prog 45 #[.int .i64 (room : Int)] w fun e w' => e = .returned (.pointer (some ⟨w.heap.size, 0, none⟩)) ∧ RAt (three) 88 83 w' w.heap.size w.heap.size room [] 0 ∧ Below w.heap.size w w' := by
  have hn : RAt (three) 88 83 (w.alloc (.cells #[.slice none 0 0, .int .i64 0, .int .i64 0, .int .i64 (room : Int), .int .i64 0] 88)) w.heap.size w.heap.size room [] 0 := ⟨_, _, _, _, _, fun _ => (((0, false) : Int × Bool), 0), RSt.new w room _ h2, rfl⟩
  have HN := Lib.hid hn; clear hn
  have b1 : ¬ (room : Int) < 1 := by omega
  have b2 : ¬ 65536 < (room : Int) := by omega
  go_enter Try.func45, Try.ntmps45
  go_wp2
  go_ret
  exact ⟨rfl, HN.out, (Below.refl _ _).alloc (Nat.le_refl _) _⟩
set_option maxHeartbeats 400000 in
theorem new_no (w : World) (room : Int) (h : room < 1 ∨ 65536 < room) : Calls Try.prog 45 #[.int .i64 room] w fun e w' => e = .returned (.pointer none) ∧ w = w' := by
  rcases h with h | h
  · go_enter Try.func45, Try.ntmps45
    go_wp2
    go_ret
    exact ⟨rfl, rfl⟩
  · have b1 : ¬ room < 1 := by omega
    go_enter Try.func45, Try.ntmps45
    go_wp2
    go_ret
    exact ⟨rfl, rfl⟩
set_option maxHeartbeats 400000 in
theorem len_nil (w : World) : Calls Try.prog 47 #[.pointer none] w fun e w' => e = .returned (.int .i64 0) ∧ w = w' := by
  go_enter Try.func47, Try.ntmps47
  go_wp2
  go_ret
  exact ⟨rfl, rfl⟩
set_option maxHeartbeats 400000 in
theorem room_nil (w : World) : Calls Try.prog 25 #[.pointer none] w fun e w' => e = .returned (.int .i64 0) ∧ w = w' := by
  go_enter Try.func25, Try.ntmps25
  go_wp2
  go_ret
  exact ⟨rfl, rfl⟩
section
variable {w : World} {B p f L cap n room m : Nat} {v : Value} {pl : Nat → (Int × Bool) × Nat} {its : List ((Int × Bool) × Nat)}
set_option maxHeartbeats 400000 in
theorem len_st (h : RSt (three) 88 83 w B p v f L cap n room m pl) : Calls Try.prog 47 #[.pointer (some ⟨p, 0, none⟩)] w fun e w' => e = .returned (.int .i64 (n : Int)) ∧ w = w' := by
  have c2 := h.f2
  have H := Lib.hid h; clear h
  go_enter Try.func47, Try.ntmps47
  go_wp2
  go_ret
  exact ⟨rfl, rfl⟩
set_option maxHeartbeats 400000 in
theorem room_st (h : RSt (three) 88 83 w B p v f L cap n room m pl) : Calls Try.prog 25 #[.pointer (some ⟨p, 0, none⟩)] w fun e w' => e = .returned (.int .i64 (room : Int)) ∧ w = w' := by
  have c3 := h.f3
  have H := Lib.hid h; clear h
  go_enter Try.func25, Try.ntmps25
  go_wp2
  go_ret
  exact ⟨rfl, rfl⟩
theorem len_any (h : RAt (three) 88 83 w B p room its m) : Calls Try.prog 47 #[.pointer (some ⟨p, 0, none⟩)] w fun e w' => e = .returned (.int .i64 (its.length : Int)) ∧ w = w' := by
  obtain ⟨v, f, L, cap, n, pl, h, rfl⟩ := h
  rw [rd_length]
  exact len_st h
theorem room_any (h : RAt (three) 88 83 w B p room its m) : Calls Try.prog 25 #[.pointer (some ⟨p, 0, none⟩)] w fun e w' => e = .returned (.int .i64 (room : Int)) ∧ w = w' := by
  obtain ⟨v, f, L, cap, n, pl, h, rfl⟩ := h
  exact room_st h
set_option maxHeartbeats 400000 in
theorem at_any {g k : Nat} (h : RSt (three) 88 83 w B p (.slice (some ⟨g, 0, none⟩) L cap) f L cap n room m pl) (hk : k ≤ 65536) (hL : 0 < L) :
    Calls Try.prog 48 #[.pointer (some ⟨p, 0, none⟩), .int .i64 (k : Int)] w fun e w' => e = .returned (.pointer (some ⟨g, (f + k) % L * 3, none⟩)) ∧ ∃ n, w' = w.drewN n := by
  have c0 := h.f0
  have c1 := h.f1
  have hf : f ≤ 65536 := by have := h.fl; have := h.lr; have := h.rm; omega
  have H := Lib.hid h; clear h
  have hm : IntKind.i64.wrap ((f : Int) + (k : Int)) = (f : Int) + (k : Int) := IntWalk.i64_in _ (by omega)
  have hm2 : ((f : Int) + (k : Int)).tmod (L : Int) = (((f + k) % L : Nat) : Int) := by
    rw [Int.tmod_eq_emod_of_nonneg (by omega)]; simp
  have hl : (f + k) % L < L := Nat.mod_lt _ hL
  generalize (f + k) % L = i at *
  have b0 : ¬ (L : Int) = 0 := by omega
  have b1 : (0 : Int) ≤ (i : Int) := by omega
  have b2 : (i : Int) < (L : Int) := by omega
  go_enter Try.func48, Try.ntmps48
  go_wp2_with fail
  go_quiet (fail)
  go_wp2_with fail
  go_ret
  exact ⟨rfl, nq, rfl⟩
/-- the ring stands on other places -/
theorem settled (h : RSt (three) 88 83 w B p v f L cap n room m pl) {u : Value} {k L' cap' : Nat} {pl' : Nat → (Int × Bool) × Nat} (w2 : World) (e : w2 = ((w.setCell ⟨p, 0, none⟩ u).setCell ⟨p, 1, none⟩ (.int .i64 0)).setCell ⟨p, 2, none⟩ (.int .i64 (k : Int)))
    (hu : (u = .slice none 0 0 ∧ L' = 0 ∧ cap' = 0) ∨ ∃ g, u = .slice (some ⟨g, 0, none⟩) L' cap' ∧ B ≤ g ∧ Pls (three) 83 w g cap' pl') (hl : L' ≤ cap') (hr : L' ≤ room) (hk : k ≤ L') (ha : Asc (rd pl' 0 L' k) m) :
    RSt (three) 88 83 w2 B p u 0 L' cap' k room m pl' ∧ Chg w w2 (RBlk 88 83 w B) := by
  have hs : RBlk 88 83 w B p := ⟨h.lo, _, .inl h.at_⟩
  subst e
  refine ⟨⟨((at5_set ((at5_set ((at5_set h.at_ u).1) (.int .i64 0)).2.1) (.int .i64 (k : Int))).2.2.1), h.lo, ?_, hl, hr, hk, h.rm, .inr rfl, ha⟩, (((Chg.refl w _).set (p := ⟨p, 0, none⟩) (fun _ => hs) _).set (p := ⟨p, 1, none⟩) (fun _ => hs) _).set (p := ⟨p, 2, none⟩) (fun _ => hs) _⟩
  rcases hu with hu | ⟨g, e, hg, hp⟩
  · exact .inl hu
  · have hne := hp.ne h.at_ (by decide)
    exact .inr ⟨g, e, hg, ((hp.far (p := ⟨p, 0, none⟩) hne _).far (p := ⟨p, 1, none⟩) hne _).far (p := ⟨p, 2, none⟩) hne _⟩
set_option maxHeartbeats 400000 in
theorem settle_any (h : RSt (three) 88 83 w B p v f L cap n room m pl) {u : Value} {k : Nat} (hu : u = .slice none 0 0 ∨ ∃ g a b, u = .slice (some ⟨g, 0, none⟩) a b) :
    Calls Try.prog 59 #[.pointer (some ⟨p, 0, none⟩), u, .int .i64 (k : Int)] w fun e w' => e = .returned (.tuple #[]) ∧ w' = ((w.setCell ⟨p, 0, none⟩ u).setCell ⟨p, 1, none⟩ (.int .i64 0)).setCell ⟨p, 2, none⟩ (.int .i64 (k : Int)) := by
  have c0 := h.f0; have c1 := h.f1; have c2 := h.f2
  have f0 := At.frozen h.at_ 0; have f1 := At.frozen h.at_ 1; have f2 := At.frozen h.at_ 2
  have H := Lib.hid h; clear h
  rcases hu with rfl | ⟨g, a, b, rfl⟩
  all_goals
    go_enter Try.func59, Try.ntmps59
    go_wp2
    go_end0
    exact ⟨rfl, rfl⟩
theorem made_places (P : Nat) (hP : P ≤ 65536) : ∃ M : Array Value, (three) M P (fun _ => (((0, false) : Int × Bool), 0)) ∧ ∀ W : World, (Instr.makeSlice 86 (.int .i64 (P : Int)) (.int .i64 (P : Int))).run Try.prog W = .ok (.slice (some ⟨W.heap.size, 0, none⟩) P P) (W.alloc (.cells M 83)) := by
  obtain ⟨i, hi, hz0, hz1, hz2⟩ := info_parts (show (Try.prog.info? 83).map (fun i => (i.zero, i.size, i.bytes)) = some (some (.agg #[.int .i64 0, .bool false, .int .i64 0]), 3, 24) by kernel_rfl)
  refine ⟨madeCells (.agg #[.int .i64 0, .bool false, .int .i64 0] : Value).cells (P * 3), ⟨size_madeCells _ _, fun k hk => ?_⟩, fun W => ?_⟩
  · unfold madeCells
    refine ⟨?_, ?_, ?_⟩ <;> simp [Value.cells, show k * 3 < P * 3 by omega, show k * 3 + 1 < P * 3 by omega, show k * 3 + 2 < P * 3 by omega]
  · have h := run_make (P := Try.prog) W 86 83 i (.agg #[.int .i64 0, .bool false, .int .i64 0]) Try.underlying86 hi hz0 .i64 .i64 (P : Int) (P : Int) (by omega) (by omega) (by rw [hz2]; omega) (by omega)
    rw [hz1] at h
    simpa using h
theorem straight_step (pl : Nat → (Int × Bool) × Nat) (f L j : Nat) (z : (Int × Bool) × Nat) : upd (straight pl f L j z) j (pl ((f + j) % L)) = straight pl f L (j + 1) z := by
  funext i
  unfold upd straight
  by_cases h : i = j
  · subst h; rw [if_pos rfl, if_pos (by omega)]
  · rw [if_neg h]
    by_cases h2 : i < j
    · rw [if_pos h2, if_pos (by omega)]
    · rw [if_neg h2, if_neg (by omega)]
set_option maxRecDepth 100000 in
set_option maxHeartbeats 800000 in
theorem row_any (h : RSt (three) 88 83 w B p v f L cap n room m pl) (P : Nat) (hP : P ≤ 65536) (hn : n ≤ P) :
    Calls Try.prog 60 #[.pointer (some ⟨p, 0, none⟩), .int .i64 (P : Int)] w fun e w' => e = .returned (.slice (some ⟨w.heap.size, 0, none⟩) P P) ∧ Pls (three) 83 w' w.heap.size P (straight pl f L n (((0, false) : Int × Bool), 0)) ∧ Below w.heap.size w w' := by
  obtain ⟨M, hM, hmk⟩ := made_places P hP
  have c2 := h.f2
  have lp := h.at_.lt
  have hp0 : Pls (three) 83 (w.alloc (.cells M 83)) w.heap.size P (straight pl f L 0 (((0, false) : Int × Bool), 0)) := by
    have e : straight pl f L 0 (((0, false) : Int × Bool), 0) = fun _ => (((0, false) : Int × Bool), 0) := by funext i; simp [straight]
    rw [e]; exact ⟨M, At.new w 83 M, hM⟩
  have hnL := h.nl; have hLr := h.lr; have hrm := h.rm
  have H := Lib.hid h; have HP0 := Lib.hid hp0; clear h hp0 hM
  go_enter Try.func60, Try.ntmps60
  go_wp2_with fail
  go_loopg [13, 6] n (fun gh s13 s6 wx => ∃ j : Nat, j ≤ n ∧ gh = n - j ∧ s13 = .int .i64 (j : Int) ∧ Pls (three) 83 wx w.heap.size P (straight pl f L j (((0, false) : Int × Bool), 0)) ∧ Below w.heap.size w wx)
  case atStart => exact ⟨0, Nat.zero_le _, rfl, rfl, HP0.out, (Below.refl _ _).alloc (Nat.le_refl _) _⟩
  case round =>
    obtain ⟨j, hj, hg, rfl, hpl, hb⟩ := hrel
    have HG := Lib.hid hg; have HPL := Lib.hid hpl; have HB := Lib.hid hb; clear hg hpl hb HP0
    by_cases hlt : j < n
    · have hr := H.out.below HB.out
      obtain ⟨g, rfl, hBg, hpg⟩ := hr.some_row (by omega)
      have hl : (f + j) % L < L := Nat.mod_lt _ (by omega)
      have hlc := hr.lc
      have ca := at_any (k := j) hr (by omega) (by omega)
      have k0 := hpg.d0 (i := (f + j) % L) (by omega); have k1 := hpg.d1 (i := (f + j) % L) (by omega); have k2 := hpg.d2 (i := (f + j) % L) (by omega)
      have e0 := HPL.out.d0 (i := j) (by omega); have e1 := HPL.out.d1 (i := j) (by omega); have e2 := HPL.out.d2 (i := j) (by omega); have z0 := HPL.out.frozen (j * 3); have z1 := HPL.out.frozen (j * 3 + 1); have z2 := HPL.out.frozen (j * 3 + 2)
      have hstep := straight_step pl f L j (((0, false) : Int × Bool), 0)
      have b1 : (0 : Int) ≤ (j : Int) := by omega
      have b2 : (j : Int) < (P : Int) := by omega
      have HST := Lib.hid hstep; have CA := Lib.hid ca; clear ca hstep hpg hr
      generalize (f + j) % L = q at *
      obtain ⟨x, hx⟩ : ∃ x, pl q = x := ⟨_, rfl⟩
      rw [hx] at k0 k1 k2
      rw [hx] at HST
      clear hx
      go_wp2_with fail
      refine CA.out.mono ?_
      rintro e w2 ⟨rfl, nq, rfl⟩
      go_wp2_with fail
      go_roundg (n - (j + 1))
      case measure => have := HG.out; omega
      case rel =>
        refine ⟨j + 1, by omega, rfl, by go_num, ?_, ?_⟩
        · rw [← HST.out]; exact (HPL.out.drewN nq).put3 (by omega) x
        · have hbd : Below w.heap.size w (wr.drewN nq) := below_drewN HB.out nq
          exact hbd.setCell (Nat.le_refl _) _ |>.setCell (Nat.le_refl _) _ |>.setCell (Nat.le_refl _) _
    · obtain rfl : j = n := by omega
      go_wp2_with fail
      go_ret
      exact ⟨rfl, HPL.out, HB.out⟩
end
end Go.Proofs.Ytenajaiedoigpaa.RP
