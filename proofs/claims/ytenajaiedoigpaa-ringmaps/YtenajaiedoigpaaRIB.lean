/- The contract of Push of rings of numbers. -/
import Derived.Test.YtenajaiedoigpaaRIA
import Derived.Deep.DrawnRows
namespace Go.Proofs.Ytenajaiedoigpaa.RI
open Go.RowKit Go.Lib Plain
attribute [local go_sem ↓] Go.wp_at_zero Go.wp_at_succ

section
variable {w : World} {B p f L cap n room m : Nat} {v : Value} {pl : Nat → Int × Nat} {its : List (Int × Nat)}
theorem RSt_drewN (h : RSt (two (Value.int .i64)) 68 70 w B p v f L cap n room m pl) (q : Nat) : RSt (two (Value.int .i64)) 68 70 (w.drewN q) B p v f L cap n room m pl := h.below (below_drewN (Below.refl _ _) q)
set_option maxHeartbeats 400000 in
theorem at_cells {g k : Nat} (c0 : w.cell? ⟨p, 0, none⟩ = some (.slice (some ⟨g, 0, none⟩) L cap)) (c1 : w.cell? ⟨p, 1, none⟩ = some (.int .i64 (f : Int))) (hf : f ≤ 65536) (hk : k ≤ 65536) (hL : 0 < L) :
    Calls Try.prog 37 #[.pointer (some ⟨p, 0, none⟩), .int .i64 (k : Int)] w fun e w' => e = .returned (.pointer (some ⟨g, (f + k) % L * 2, none⟩)) ∧ ∃ n, w' = w.drewN n := by
  have hm : IntKind.i64.wrap ((f : Int) + (k : Int)) = (f : Int) + (k : Int) := IntWalk.i64_in _ (by omega)
  have hm2 : ((f : Int) + (k : Int)).tmod (L : Int) = (((f + k) % L : Nat) : Int) := by
    rw [Int.tmod_eq_emod_of_nonneg (by omega)]; simp
  have hl : (f + k) % L < L := Nat.mod_lt _ hL
  generalize (f + k) % L = i at *
  have b0 : ¬ (L : Int) = 0 := by omega
  have b1 : (0 : Int) ≤ (i : Int) := by omega
  have b2 : (i : Int) < (L : Int) := by omega
  go_enter Try.func37, Try.ntmps37
  go_wp2_with fail
  go_quiet (fail)
  go_wp2_with fail
  go_ret
  exact ⟨rfl, nq, rfl⟩
set_option maxHeartbeats 400000 in
theorem push_full (x : Int) (h : RSt (two (Value.int .i64)) 68 70 w B p v f L cap n room m pl) (hn : n = room) :
    Calls Try.prog 11 #[.pointer (some ⟨p, 0, none⟩), .int .i64 x] w fun e w' => e = .returned (.bool false) ∧ w = w' := by
  subst hn
  have cl := len_st h
  have cr := room_st h
  have CL := Lib.hid cl; have CR := Lib.hid cr; clear cl cr h
  
  go_enter Try.func11, Try.ntmps11
  go_wp2_with fail
  
  refine CL.out.mono ?_
  rintro e w' ⟨rfl, rfl⟩
  go_wp2_with fail
  refine CR.out.mono ?_
  rintro e w' ⟨rfl, rfl⟩
  go_wp2_with fail
  go_ret
  exact ⟨rfl, rfl⟩
/-- one more stands there -/
theorem pushed (x : Int) {g i : Nat} (h : RSt (two (Value.int .i64)) 68 70 w B p (.slice (some ⟨g, 0, none⟩) L cap) f L cap n room m pl) (hpl : Pls (two (Value.int .i64)) 70 w g cap pl) (hB : B ≤ g) (hn : n < L) (hi : (f + n) % L = i) (q : Nat) (w2 : World)
    (e : w2 = ((((w.drewN q).setCell ⟨g, i * 2, none⟩ (.int .i64 x)).setCell ⟨g, i * 2 + 1, none⟩ (.int .i64 (m : Int))).setCell ⟨p, 2, none⟩ (.int .i64 ((n : Int) + 1))).setCell ⟨p, 4, none⟩ (.int .i64 ((m : Int) + 1))) :
    RAt (two (Value.int .i64)) 68 70 w2 B p room (rd pl f L n ++ [(x, m)]) (m + 1) ∧ Chg w w2 (RBlk 68 70 w B) := by
  have hl : i < L := by rw [← hi]; exact Nat.mod_lt _ (by omega)
  have hlc := h.lc
  have hgp := hpl.ne h.at_ (by decide)
  have hs : RBlk 68 70 w B p := ⟨h.lo, _, .inl h.at_⟩
  have hs2 : RBlk 68 70 w B g := by obtain ⟨arr, ha, _⟩ := hpl; exact ⟨hB, _, .inr ha⟩
  have h1 := (hpl.drewN q).put (i := i) (by omega) (x, m)
  have a0 : At (w.drewN q) p 68 _ := h.at_
  have a1 := (a0.far (p := ⟨g, i * 2, none⟩) (Ne.symm hgp) (.int .i64 x)).far (p := ⟨g, i * 2 + 1, none⟩) (Ne.symm hgp) (.int .i64 (m : Int))
  have a2 := (at5_set (at5_set a1 (.int .i64 ((n : Int) + 1))).2.2.1 (.int .i64 ((m : Int) + 1))).2.2.2
  have p2 := (h1.far (p := ⟨p, 2, none⟩) hgp (.int .i64 ((n : Int) + 1))).far (p := ⟨p, 4, none⟩) hgp (.int .i64 ((m : Int) + 1))
  have er : rd (upd pl i (x, m)) f L (n + 1) = rd pl f L n ++ [(x, m)] := by rw [← hi]; exact rd_push pl f L n (x, m) hn
  subst e
  refine ⟨⟨.slice (some ⟨g, 0, none⟩) L cap, f, L, cap, n + 1, upd pl i (x, m), ⟨?_, h.lo, .inr ⟨g, rfl, hB, p2⟩, h.lc, h.lr, by omega, h.rm, h.fl, by rw [er]; exact h.asc.snoc x⟩, er⟩, ?_⟩
  · exact a2
  · have c0 : Chg w (w.drewN q) (RBlk 68 70 w B) := Chg.ofBelow (below_drewN (Below.refl _ _) q) _
    exact (((c0.set (p := ⟨g, i * 2, none⟩) (fun _ => hs2) _).set (p := ⟨g, i * 2 + 1, none⟩) (fun _ => hs2) _).set (p := ⟨p, 2, none⟩) (fun _ => hs) _).set (p := ⟨p, 4, none⟩) (fun _ => hs) _
/-- what Push does where there is room -/
def PushTo (w : World) (B p room : Nat) (its : List (Int × Nat)) (m : Nat) (x : Int) (e : Ending) (w' : World) : Prop :=
  e = .returned (.bool true) ∧ RAt (two (Value.int .i64)) 68 70 w' B p room (its ++ [(x, m)]) (m + 1) ∧ Chg w w' (RBlk 68 70 w B)
set_option maxRecDepth 100000 in
set_option maxHeartbeats 800000 in
theorem push_room (x : Int) {g : Nat} (h : RSt (two (Value.int .i64)) 68 70 w B p (.slice (some ⟨g, 0, none⟩) L cap) f L cap n room m pl) (hpl : Pls (two (Value.int .i64)) 70 w g cap pl) (hB : B ≤ g) (hn : n < L) (hm : m ≤ 1000000) :
    Calls Try.prog 11 #[.pointer (some ⟨p, 0, none⟩), .int .i64 x] w (PushTo w B p room (rd pl f L n) m x) := by
  unfold PushTo
  have cl := len_st h
  have cr := room_st h
  have c0 := h.f0; have c1 := h.f1; have c2 := h.f2; have c3 := h.f3; have c4 := h.f4
  have f2 := At.frozen h.at_ 2; have f4 := At.frozen h.at_ 4
  have hlr := h.lr; have hrm := h.rm; have hfl := h.fl; have hlc := h.lc
  have hl : (f + n) % L < L := Nat.mod_lt _ (by omega)
  have ca : ∀ W : World, W.cell? ⟨p, 0, none⟩ = some (.slice (some ⟨g, 0, none⟩) L cap) → W.cell? ⟨p, 1, none⟩ = some (.int .i64 (f : Int)) → Calls Try.prog 37 #[.pointer (some ⟨p, 0, none⟩), .int .i64 (n : Int)] W fun e w' => e = .returned (.pointer (some ⟨g, (f + n) % L * 2, none⟩)) ∧ ∃ n, w' = W.drewN n := fun W h0 h1 => at_cells h0 h1 (by omega) (by omega) (by omega)
  have hgp : g ≠ p := hpl.ne h.at_ (by decide)
  generalize hi : (f + n) % L = i at ca hl
  have HI := Lib.hid hi; clear hi
  have e0 := hpl.c0 (i := i) (by omega); have e1 := hpl.c1 (i := i) (by omega); have z0 := hpl.frozen (i * 2); have z1 := hpl.frozen (i * 2 + 1)
  
  have CL := Lib.hid cl; have CR := Lib.hid cr; have CA := Lib.hid ca; have H := Lib.hid h; have HPL := Lib.hid hpl; clear cl cr h hpl ca
  have b0 : decide (n = room) = false := by simp; omega
  have b1 : decide (n = L) = false := by simp; omega
  go_enter Try.func11, Try.ntmps11
  go_wp2_with fail
  
  refine CL.out.mono ?_
  rintro e w' ⟨rfl, rfl⟩
  go_wp2_with fail
  refine CR.out.mono ?_
  rintro e w' ⟨rfl, rfl⟩
  go_wp2_with fail
  go_quiet (fail)
  go_wp2_with fail
  go_region_held3 (fun w' => w'.cell? ⟨p, 0, none⟩ = some (.slice (some ⟨g, 0, none⟩) L cap) ∧ w'.cell? ⟨p, 1, none⟩ = some (.int .i64 (f : Int)) ∧ w'.cell? ⟨p, 2, none⟩ = some (.int .i64 (n : Int)) ∧ w'.cell? ⟨p, 4, none⟩ = some (.int .i64 (m : Int)))
    (first | go_keep)
    ((go_at_call 37; (with_reducible refine (CA.out _ (by simp [*]) (by simp [*])).mono ?_); rintro e w4 ⟨rfl, nq4, rfl⟩))
  all_goals go_wp2_with fail
  all_goals go_ret
  exact ⟨rfl, pushed x H.out HPL.out hB hn HI.out _ _ rfl⟩
set_option maxRecDepth 100000 in
set_option maxHeartbeats 800000 in
theorem push_grow (x : Int) (h : RSt (two (Value.int .i64)) 68 70 w B p v f L cap n room m pl) (hB : B ≤ w.heap.size) (hn : n = L) (hr : n < room) (hm : m ≤ 1000000) :
    Calls Try.prog 11 #[.pointer (some ⟨p, 0, none⟩), .int .i64 x] w (PushTo w B p room (rd pl f L n) m x) := by
  unfold PushTo
  have cl := len_st h
  have cr := room_st h
  have c0 := h.f0; have c1 := h.f1; have c2 := h.f2; have c3 := h.f3; have c4 := h.f4
  have hlr := h.lr; have hrm := h.rm
  have lp := h.at_.lt
  obtain ⟨P, hP⟩ : ∃ P, min (2 * n + 1) room = P := ⟨_, rfl⟩
  have hmin : (if (room : Int) < 2 * (n : Int) + 1 then (room : Int) else 2 * (n : Int) + 1) = (P : Int) := by split <;> omega
  have HMIN := Lib.hid hmin; clear hmin
  have cw : ∀ q, Calls Try.prog 39 #[.pointer (some ⟨p, 0, none⟩), .int .i64 (P : Int)] (w.drewN q) fun e w' => e = .returned (.slice (some ⟨w.heap.size, 0, none⟩) P P) ∧ Pls (two (Value.int .i64)) 70 w' w.heap.size P (straight pl f L n ((0 : Int), 0)) ∧ Below w.heap.size (w.drewN q) w' := fun q => row_any (RSt_drewN h q) P (by omega) (by omega)
  have b0 : ((n : Int) == (room : Int)) = false := beq_eq_false_iff_ne.2 (by omega)
  have hm1 : IntKind.i64.wrap (2 * (n : Int)) = 2 * (n : Int) := IntWalk.i64_in _ (by omega)
  have hm2 : IntKind.i64.wrap (2 * (n : Int) + 1) = 2 * (n : Int) + 1 := IntWalk.i64_in _ (by omega)
  have hnP : n < P := by omega
  have hPr : P ≤ room := by omega
  
  obtain ⟨O, hv⟩ : ∃ O, v = .slice O L cap := by
    rcases h.rows with ⟨h1, h2, h3⟩ | ⟨g, h1, _⟩
    · exact ⟨none, by rw [h1, h2, h3]⟩
    · exact ⟨_, h1⟩
  subst hv
  subst hn
  have CL := Lib.hid cl; have CR := Lib.hid cr; have CW := Lib.hid cw; have H := Lib.hid h; have HP := Lib.hid hP; clear cl cr h cw hP
  go_enter Try.func11, Try.ntmps11
  go_wp2_with fail
  
  refine CL.out.mono ?_
  rintro e w' ⟨rfl, rfl⟩
  go_wp2_with fail
  refine CR.out.mono ?_
  rintro e w' ⟨rfl, rfl⟩
  go_wp2_with fail
  go_quiet (fail)
  go_wp2_with fail
  go_region_held3 (fun w' => w'.cell? ⟨p, 2, none⟩ = some (.int .i64 (n : Int)) ∧ w'.cell? ⟨p, 3, none⟩ = some (.int .i64 (room : Int)))
    (first | go_keep | exact S4 | exact S5)
    (first
      | (go_at_call 39; rw [HMIN.out]; (with_reducible refine (CW.out _).mono ?_); rintro e w4 ⟨rfl, hpl4, hb4⟩; have h4 := RSt.below (RSt_drewN H.out _) hb4; have S4 : w4.cell? ⟨p, 2, none⟩ = some (.int .i64 (n : Int)) ∧ w4.cell? ⟨p, 3, none⟩ = some (.int .i64 (room : Int)) := ⟨h4.f2, h4.f3⟩; have hbb : Below w.heap.size w w4 := (below_drewN (Below.refl _ _) _).trans hb4; have HC4 := Lib.hid (Chg.ofBelow hbb (RBlk 68 70 w B)); have H4 := Lib.hid h4; have HPL4 := Lib.hid hpl4; clear h4 hpl4 hb4 hbb)
      | (go_at_call 38; (with_reducible refine (settle_any H4.out (Or.inr ⟨_, _, _, rfl⟩)).mono ?_); rintro e w5 ⟨rfl, h5⟩; have st5 := settled H4.out w5 h5 (Or.inr ⟨_, rfl, hB, HPL4.out⟩) (Nat.le_refl P) hPr (Nat.le_of_lt hnP) (by rw [rd_straight _ _ _ _ _ _ (Nat.le_of_lt hnP)]; exact H.out.asc); have S5 : w5.cell? ⟨p, 2, none⟩ = some (.int .i64 (n : Int)) ∧ w5.cell? ⟨p, 3, none⟩ = some (.int .i64 (room : Int)) := ⟨st5.1.f2, st5.1.f3⟩; have ST5 := Lib.hid st5; clear h5 st5))
  clear S4 S5 CL CR CW H4 HPL4 c0 c1 c2 c3 c4 hm1 hm2 HMIN
  have hc45 := rchg_trans HC4.out ST5.out.2
  obtain ⟨g, hg, hBg, hpl5⟩ := ST5.out.1.some_row (by omega)
  have h5 := ST5.out.1
  rw [hg] at h5
  
  have HC45 := Lib.hid hc45; clear hc45 hg ST5 HC4
  have c0 := h5.f0
  have c1 : w5.cell? ⟨p, 1, none⟩ = some (.int .i64 0) := h5.f1
  have c2 := h5.f2; have c4 := h5.f4
  have f2 := At.frozen h5.at_ 2; have f4 := At.frozen h5.at_ 4
  have ca : ∀ W : World, W.cell? ⟨p, 0, none⟩ = some (.slice (some ⟨g, 0, none⟩) P P) → W.cell? ⟨p, 1, none⟩ = some (.int .i64 0) → Calls Try.prog 37 #[.pointer (some ⟨p, 0, none⟩), .int .i64 (n : Int)] W fun e w' => e = .returned (.pointer (some ⟨g, n * 2, none⟩)) ∧ ∃ n, w' = W.drewN n := fun W h0 h1 => by
    have := at_cells (f := 0) (k := n) h0 h1 (by omega) (by omega) (by omega)
    rw [Nat.zero_add, Nat.mod_eq_of_lt hnP] at this
    exact this
  have hgp : g ≠ p := hpl5.ne h5.at_ (by decide)
  have e0 := hpl5.c0 (i := n) (by omega); have e1 := hpl5.c1 (i := n) (by omega); have z0 := hpl5.frozen (n * 2); have z1 := hpl5.frozen (n * 2 + 1)
  have HPL := Lib.hid hpl5; have H5 := Lib.hid h5; have CA := Lib.hid ca; clear hpl5 h5 ca
  go_wp2_with fail
  go_region_held3 (fun w' => w'.cell? ⟨p, 0, none⟩ = some (.slice (some ⟨g, 0, none⟩) P P) ∧ w'.cell? ⟨p, 1, none⟩ = some (.int .i64 0) ∧ w'.cell? ⟨p, 2, none⟩ = some (.int .i64 (n : Int)) ∧ w'.cell? ⟨p, 4, none⟩ = some (.int .i64 (m : Int)))
    (first | go_keep)
    ((go_at_call 37; (with_reducible refine (CA.out _ (by simp [*]) (by simp [*])).mono ?_); rintro e w6 ⟨rfl, nq6, rfl⟩))
  all_goals go_wp2_with fail
  all_goals go_ret
  rw [← rd_straight pl f n n P ((0 : Int), 0) (Nat.le_of_lt hnP)]
  have hi : (0 + n) % P = n := by rw [Nat.zero_add, Nat.mod_eq_of_lt hnP]
  exact ⟨rfl, (pushed x H5.out HPL.out hBg hnP hi _ _ rfl).1, rchg_trans HC45.out (pushed x H5.out HPL.out hBg hnP hi _ _ rfl).2⟩
/-- Push where there is room -/
theorem push_any (x : Int) (h : RAt (two (Value.int .i64)) 68 70 w B p room its m) (hB : B ≤ w.heap.size) (hr : its.length < room) (hm : m ≤ 1000000) :
    Calls Try.prog 11 #[.pointer (some ⟨p, 0, none⟩), .int .i64 x] w (PushTo w B p room its m x) := by
  obtain ⟨v, f, L, cap, n, pl, h, rfl⟩ := h
  rw [rd_length] at hr
  rcases Nat.lt_or_ge n L with hn | hn
  · obtain ⟨g, rfl, hBg, hpl⟩ := h.some_row (by omega)
    exact push_room x h hpl hBg hn hm
  · exact push_grow x h hB (by have := h.nl; omega) hr hm
/-- Push where there is none -/
theorem push_no (x : Int) (h : RAt (two (Value.int .i64)) 68 70 w B p room its m) (hr : its.length = room) :
    Calls Try.prog 11 #[.pointer (some ⟨p, 0, none⟩), .int .i64 x] w fun e w' => e = .returned (.bool false) ∧ w = w' := by
  obtain ⟨v, f, L, cap, n, pl, h, rfl⟩ := h
  rw [rd_length] at hr
  exact push_full x h hr
end
end Go.Proofs.Ytenajaiedoigpaa.RI
