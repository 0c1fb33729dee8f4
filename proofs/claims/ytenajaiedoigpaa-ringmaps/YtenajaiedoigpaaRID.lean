/- The contracts of Peek, Pop and Clear of rings of numbers. -/
import Derived.Test.YtenajaiedoigpaaRIC
import Derived.StillTailTactics
namespace Go.Proofs.Ytenajaiedoigpaa.RI
open Go.RowKit Go.Lib Plain

/-- a region that draws its order, all reads but its tail: at a world that is a letter -/
theorem region_tail {P : Program} {id : Nat} {Q : Exit → Act → World → Prop} {a : Act} {w : World} {l : List Oper} (n : Nat) (hm : P.follows .mixedOrders = true) (hB : Region.lexTailB .any l.toArray n = true)
    (h : ∀ w6, w6 = w.drew → wpStill P l.toArray w6 (fun a' => wpList P l.toArray Q (l.drop n) a' w6) (l.take n) a) : (Code.region id l.toArray true).wp P Q a w := wp_region_still_tail n hm hB (h _ rfl)

set_option maxHeartbeats 400000 in
theorem peek_nil (w : World) : Calls Try.prog 10 #[.pointer none] w fun e w' => e = .returned (.tuple #[.int .i64 0, .bool false]) ∧ Below w.heap.size w w' := by
  go_enter Try.func10, Try.ntmps10
  go_wp2_with fail
  refine (len_nil w).mono ?_
  rintro e w0 ⟨rfl, rfl⟩
  go_wp2_with fail
  go_ret2
  exact ⟨rfl, (Below.refl _ _).alloc (Nat.le_refl _) _⟩
section
variable {w : World} {B p f L cap n room m : Nat} {v : Value} {pl : Nat → Int × Nat} {its : List (Int × Nat)}
set_option maxHeartbeats 400000 in
theorem peek_none (h : RAt (two (Value.int .i64)) 68 70 w B p room [] m) : Calls Try.prog 10 #[.pointer (some ⟨p, 0, none⟩)] w fun e w' => e = .returned (.tuple #[.int .i64 0, .bool false]) ∧ Below w.heap.size w w' := by
  have cl := len_any h
  have CL := Lib.hid cl; clear cl h
  go_enter Try.func10, Try.ntmps10
  go_wp2_with fail
  refine CL.out.mono ?_
  rintro e w0 ⟨rfl, rfl⟩
  go_wp2_with fail
  go_ret2
  exact ⟨rfl, (Below.refl _ _).alloc (Nat.le_refl _) _⟩
set_option maxHeartbeats 400000 in
theorem peek_st {g : Nat} (h : RSt (two (Value.int .i64)) 68 70 w B p (.slice (some ⟨g, 0, none⟩) L cap) f L cap (n + 1) room m pl) (hpl : Pls (two (Value.int .i64)) 70 w g cap pl) : Calls Try.prog 10 #[.pointer (some ⟨p, 0, none⟩)] w fun e w' => e = .returned (.tuple #[(Value.int .i64 (pl (f % L)).1), .bool true]) ∧ ∃ q, w' = w.drewN q := by
  have cl := len_st h
  have hnl := h.nl
  have hlc := h.lc
  have ca := at_any (k := 0) h (by omega) (by omega)
  have hl : f % L < L := Nat.mod_lt _ (by omega)
  rw [Nat.add_zero] at ca
  have k0 := hpl.c0 (i := f % L) (by omega); have k1 := hpl.c1 (i := f % L) (by omega)
  have CL := Lib.hid cl; have CA := Lib.hid ca; clear cl ca h hpl
  generalize f % L = q at *
  generalize pl q = y at *
  obtain ⟨y, ny⟩ := y
  go_enter Try.func10, Try.ntmps10
  go_wp2_with fail
  refine CL.out.mono ?_
  rintro e w0 ⟨rfl, rfl⟩
  have hne : (((n + 1 : Nat) : Int) == 0) = false := beq_eq_false_iff_ne.2 (by omega)
  go_wp2_with fail
  refine CA.out.mono ?_
  rintro e w0 ⟨rfl, nq, rfl⟩
  go_wp2_with fail
  go_ret2
  exact ⟨rfl, nq, rfl⟩
theorem peek_some {x : Int × Nat} (h : RAt (two (Value.int .i64)) 68 70 w B p room (x :: its) m) : Calls Try.prog 10 #[.pointer (some ⟨p, 0, none⟩)] w fun e w' => e = .returned (.tuple #[(Value.int .i64 x.1), .bool true]) ∧ ∃ q, w' = w.drewN q := by
  obtain ⟨v, f, L, cap, n, pl, h, e⟩ := h
  have hl : n = its.length + 1 := by have := rd_length pl f L n; rw [e] at this; simpa using this.symm
  subst hl
  obtain ⟨g, rfl, _, hpl⟩ := h.some_row (by have := h.nl; omega)
  rw [rd_cons] at e
  injection e with e1 e2
  rw [← e1]
  exact peek_st h hpl
/-- one fewer stands there -/
theorem popped {g i F : Nat} (h : RSt (two (Value.int .i64)) 68 70 w B p (.slice (some ⟨g, 0, none⟩) L cap) f L cap (n + 1) room m pl) (hpl : Pls (two (Value.int .i64)) 70 w g cap pl) (hB : B ≤ g) (hi : f % L = i) (hF : (f + 1) % L = F) (q : Nat) (w2 : World)
    (e : w2 = ((((w.drewN q).setCell ⟨g, i * 2, none⟩ (.int .i64 0)).setCell ⟨g, i * 2 + 1, none⟩ (.int .i64 0)).setCell ⟨p, 1, none⟩ (.int .i64 (F : Int))).setCell ⟨p, 2, none⟩ (.int .i64 (n : Int))) :
    RAt (two (Value.int .i64)) 68 70 w2 B p room (rd pl F L n) m ∧ Chg w w2 (RBlk 68 70 w B) := by
  have hnl := h.nl
  have hl : i < L := by rw [← hi]; exact Nat.mod_lt _ (by omega)
  have hlF : F < L := by rw [← hF]; exact Nat.mod_lt _ (by omega)
  have hlc := h.lc
  have hgp := hpl.ne h.at_ (by decide)
  have hs : RBlk 68 70 w B p := ⟨h.lo, _, .inl h.at_⟩
  have hs2 : RBlk 68 70 w B g := by obtain ⟨arr, ha, _⟩ := hpl; exact ⟨hB, _, .inr ha⟩
  have h1 := (hpl.drewN q).put (i := i) (by omega) ((0 : Int), 0)
  have a0 : At (w.drewN q) p 68 _ := h.at_
  have a1 := (a0.far (p := ⟨g, i * 2, none⟩) (Ne.symm hgp) (.int .i64 0)).far (p := ⟨g, i * 2 + 1, none⟩) (Ne.symm hgp) (.int .i64 0)
  have a2 := (at5_set (at5_set a1 (.int .i64 (F : Int))).2.1 (.int .i64 (n : Int))).2.2.1
  have p2 := (h1.far (p := ⟨p, 1, none⟩) hgp (.int .i64 (F : Int))).far (p := ⟨p, 2, none⟩) hgp (.int .i64 (n : Int))
  have er : rd (upd pl i ((0 : Int), 0)) F L n = rd pl F L n := by rw [← hi, ← hF]; exact rd_pop pl f L n _ (by omega)
  have ha := h.asc
  rw [rd_cons, hF] at ha
  subst e
  refine ⟨⟨.slice (some ⟨g, 0, none⟩) L cap, F, L, cap, n, upd pl i ((0 : Int), 0), ⟨a2, h.lo, .inr ⟨g, rfl, hB, p2⟩, h.lc, h.lr, by omega, h.rm, .inl hlF, by rw [er]; exact ha.tail⟩, er⟩, ?_⟩
  have c0 : Chg w (w.drewN q) (RBlk 68 70 w B) := Chg.ofBelow (below_drewN (Below.refl _ _) q) _
  exact (((c0.set (p := ⟨g, i * 2, none⟩) (fun _ => hs2) _).set (p := ⟨g, i * 2 + 1, none⟩) (fun _ => hs2) _).set (p := ⟨p, 1, none⟩) (fun _ => hs) _).set (p := ⟨p, 2, none⟩) (fun _ => hs) _
/-- what Pop does where something stands -/
def PopTo (w : World) (B p room : Nat) (x : Int) (its : List (Int × Nat)) (m : Nat) (e : Ending) (w' : World) : Prop :=
  e = .returned (.tuple #[(Value.int .i64 x), .bool true]) ∧ RAt (two (Value.int .i64)) 68 70 w' B p room its m ∧ Chg w w' (RBlk 68 70 w B)
set_option maxRecDepth 100000 in
set_option maxHeartbeats 800000 in
theorem pop_st {g : Nat} (h : RSt (two (Value.int .i64)) 68 70 w B p (.slice (some ⟨g, 0, none⟩) L cap) f L cap (n + 1) room m pl) (hpl : Pls (two (Value.int .i64)) 70 w g cap pl) (hB : B ≤ g) : Calls Try.prog 9 #[.pointer (some ⟨p, 0, none⟩)] w (PopTo w B p room (pl (f % L)).1 (rd pl ((f + 1) % L) L n) m) := by
  unfold PopTo
  have cp := peek_st h hpl
  have hnl := h.nl
  have hlc := h.lc; have hlr := h.lr; have hrm := h.rm; have hfl := h.fl
  have ca : ∀ q, Calls Try.prog 37 #[.pointer (some ⟨p, 0, none⟩), .int .i64 0] (w.drewN q) fun e w' => e = .returned (.pointer (some ⟨g, f % L * 2, none⟩)) ∧ ∃ n, w' = (w.drewN q).drewN n := fun q => at_any (k := 0) (RSt_drewN h q) (by omega) (by omega)
  have hl : f % L < L := Nat.mod_lt _ (by omega)
  have hlF : (f + 1) % L < L := Nat.mod_lt _ (by omega)
  have hm : IntKind.i64.wrap ((f : Int) + 1) = (f : Int) + 1 := IntWalk.i64_in _ (by omega)
  have hm2 : ((f : Int) + 1).tmod (L : Int) = (((f + 1) % L : Nat) : Int) := by
    rw [Int.tmod_eq_emod_of_nonneg (by omega)]; simp
  generalize hi : f % L = i at *
  generalize hF : (f + 1) % L = F at *
  have k0 := hpl.c0 (i := i) (by omega); have k1 := hpl.c1 (i := i) (by omega); have z0 := hpl.frozen (i * 2); have z1 := hpl.frozen (i * 2 + 1)
  have hgp : g ≠ p := hpl.ne h.at_ (by decide)
  have c0 := h.f0; have c1 := h.f1
  have c2 : w.cell? ⟨p, 2, none⟩ = some (.int .i64 ((n : Int) + 1)) := h.f2
  have f1 := At.frozen h.at_ 1; have f2 := At.frozen h.at_ 2
  have b0 : ¬ (L : Int) = 0 := by omega
  have b9 : ¬ L = 0 := by omega
  generalize hy : (pl i).1 = y at *
  have HI := Lib.hid hi; have HF := Lib.hid hF; have CP := Lib.hid cp; have CA := Lib.hid ca; have H := Lib.hid h; have HPL := Lib.hid hpl; clear cp ca h hpl hi hF hy
  go_enter Try.func9, Try.ntmps9
  go_wp2_with fail
  refine CP.out.mono ?_
  rintro e w1 ⟨rfl, nq, rfl⟩
  go_wp2_with fail
  refine (CA.out _).mono ?_
  rintro e w1 ⟨rfl, nq2, rfl⟩
  go_wp2_with fail
  refine region_tail 14 (by kernel_rfl) (by kernel_rfl) ?_
  intro w6 hw6
  have a6 : At w6 p 68 #[.slice (some ⟨g, 0, none⟩) L cap, .int .i64 (f : Int), .int .i64 ((n : Int) + 1), .int .i64 (room : Int), .int .i64 (m : Int)] := by
    have a0 : At (w.drewN (nq + nq2)) p 68 _ := H.out.at_
    have a1 := (a0.far (p := ⟨g, i * 2, none⟩) (Ne.symm hgp) (.int .i64 0)).far (p := ⟨g, i * 2 + 1, none⟩) (Ne.symm hgp) (.int .i64 0)
    rw [hw6]
    exact a1
  clear c0 c1 c2 f1 f2
  have c0 : w6.cell? ⟨p, 0, none⟩ = some (.slice (some ⟨g, 0, none⟩) L cap) := by rw [a6.cell]; rfl
  have c1 : w6.cell? ⟨p, 1, none⟩ = some (.int .i64 (f : Int)) := by rw [a6.cell]; rfl
  have c2 : w6.cell? ⟨p, 2, none⟩ = some (.int .i64 ((n : Int) + 1)) := by rw [a6.cell]; rfl
  have f1 := a6.frozen 1; have f2 := a6.frozen 2
  have HW6 := Lib.hid hw6; clear hw6 a6
  simp only [List.take_succ_cons, List.take_zero, List.drop_succ_cons, List.drop_zero]
  repeat still_step
  refine wpStill_nil ?_
  go_wp2_with fail
  go_ret2
  have he : w6 = ((w.drewN (nq + nq2 + 1)).setCell ⟨g, i * 2, none⟩ (.int .i64 0)).setCell ⟨g, i * 2 + 1, none⟩ (.int .i64 0) := by rw [HW6.out]; rfl
  exact ⟨rfl, popped H.out HPL.out hB HI.out HF.out (nq + nq2 + 1) _ (by rw [he])⟩
theorem pop_some {x : Int × Nat} (h : RAt (two (Value.int .i64)) 68 70 w B p room (x :: its) m) : Calls Try.prog 9 #[.pointer (some ⟨p, 0, none⟩)] w (PopTo w B p room x.1 its m) := by
  obtain ⟨v, f, L, cap, n, pl, h, e⟩ := h
  have hl : n = its.length + 1 := by have := rd_length pl f L n; rw [e] at this; simpa using this.symm
  subst hl
  obtain ⟨g, rfl, hB, hpl⟩ := h.some_row (by have := h.nl; omega)
  have hp := pop_st h hpl hB
  rw [rd_cons] at e
  injection e with e1 e2
  rw [e1, e2] at hp
  exact hp
set_option maxHeartbeats 400000 in
theorem pop_none (h : RAt (two (Value.int .i64)) 68 70 w B p room [] m) : Calls Try.prog 9 #[.pointer (some ⟨p, 0, none⟩)] w fun e w' => e = .returned (.tuple #[.int .i64 0, .bool false]) ∧ Below w.heap.size w w' := by
  have cl := peek_none h
  have CL := Lib.hid cl; clear cl h
  go_enter Try.func9, Try.ntmps9
  go_wp2_with fail
  refine CL.out.mono ?_
  rintro e w0 ⟨rfl, hb⟩
  go_wp2_with fail
  go_ret2
  exact ⟨rfl, hb⟩
set_option maxHeartbeats 400000 in
theorem pop_nil (w : World) : Calls Try.prog 9 #[.pointer none] w fun e w' => e = .returned (.tuple #[.int .i64 0, .bool false]) ∧ Below w.heap.size w w' := by
  go_enter Try.func9, Try.ntmps9
  go_wp2_with fail
  refine (peek_nil w).mono ?_
  rintro e w0 ⟨rfl, hb⟩
  go_wp2_with fail
  go_ret2
  exact ⟨rfl, hb⟩
set_option maxHeartbeats 400000 in
theorem clear_nil (w : World) : Calls Try.prog 14 #[.pointer none] w fun e w' => e = .returned (.int .i64 0) ∧ w = w' := by
  go_enter Try.func14, Try.ntmps14
  go_wp2_with fail
  refine (len_nil w).mono ?_
  rintro e w0 ⟨rfl, rfl⟩
  go_wp2_with fail
  go_ret
  exact ⟨rfl, rfl⟩
set_option maxHeartbeats 800000 in
theorem clear_any (h : RAt (two (Value.int .i64)) 68 70 w B p room its m) : Calls Try.prog 14 #[.pointer (some ⟨p, 0, none⟩)] w fun e w' => e = .returned (.int .i64 (its.length : Int)) ∧ RAt (two (Value.int .i64)) 68 70 w' B p room [] m ∧ Chg w w' (RBlk 68 70 w B) := by
  have cl := len_any h
  cases its with
  | nil =>
    have CL := Lib.hid cl; have H := Lib.hid h; clear cl h
    go_enter Try.func14, Try.ntmps14
    go_wp2_with fail
    refine CL.out.mono ?_
    rintro e w0 ⟨rfl, rfl⟩
    go_wp2_with fail
    go_ret
    exact ⟨rfl, H.out, Chg.refl _ _⟩
  | cons x its =>
    obtain ⟨v, f, L, cap, n, pl, h, e⟩ := h
    have cs := settle_any h (u := .slice none 0 0) (k := 0) (.inl rfl)
    have hfin := fun w2 e => settled h (u := .slice none 0 0) (k := 0) (L' := 0) (cap' := 0) (pl' := pl) w2 e (.inl ⟨rfl, rfl, rfl⟩) (Nat.le_refl _) (Nat.zero_le _) (Nat.le_refl _) (Asc.nil _)
    have hb : decide (0 < (x :: its).length) = true := by simp
    generalize (x :: its).length = k at cl hb ⊢
    have hk : (0 : Int) < (k : Int) := by simp at hb; omega
    have CL := Lib.hid cl; have CS := Lib.hid cs; have HF := Lib.hid hfin; clear cl h cs hfin e hb
    go_enter Try.func14, Try.ntmps14
    go_wp2_with fail
    refine CL.out.mono ?_
    rintro e w0 ⟨rfl, rfl⟩
    go_wp2_with fail
    refine CS.out.mono ?_
    rintro e w1 ⟨rfl, h1⟩
    have H1 := Lib.hid (HF.out w1 h1); clear h1
    go_wp2_with fail
    go_ret
    exact ⟨rfl, ⟨_, _, _, _, _, _, H1.out.1, rfl⟩, H1.out.2⟩
end
end Go.Proofs.Ytenajaiedoigpaa.RI
