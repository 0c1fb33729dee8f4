/- The contract of Equal. -/
import Derived.Test.YtdpgpdadgcogjaaShG
namespace Go.Proofs.Ytdpgpdadgcogjaa
open Go.RowKit Go.Lib Plain
set_option linter.unusedVariables false

set_option maxHeartbeats 400000 in
theorem equal1_idle (a : Nat) (w : World) :
    CallsD Try.prog 34 #[ptr a] .returning w fun e u' w' => e = .returned (.tuple #[]) ∧ u' = .returning ∧ w' = w := by
  refine callsD_of_wpS Try.func34 rfl fun c₀ cs hu => ?_
  apply wpS_seq
  apply wpS_region
  simp [wpOpsS, go_sem, recoverD, hu, Try.ntmps34, Exit.thenS]
  refine wpS_cond (t := false) (by simp [Act.eval, Array.replicate]) ?_
  simp only [Bool.false_eq_true, if_false]
  refine wpS_of_wp (wp_skip ?_)
  cases c₀
  simp_all [bodyPostS, results, Try.results34]
section
variable {w w' : World} {v u : Value} {l m : List KV} {room : Nat}
/-- the world in which Equal goes on -/
abbrev eqW (w : World) (o1 o2 : Option Addr) (n1 r1 n2 r2 : Nat) : World :=
  ((w.alloc (.cells #[.pointer o1, .int .i64 (n1 : Int), .int .i64 (r1 : Int)] 26)).alloc (.cells #[.pointer o2, .int .i64 (n2 : Int), .int .i64 (r2 : Int)] 26)).alloc (.cells #[.bool false] 4)
set_option maxRecDepth 100000 in
set_option maxHeartbeats 3200000 in
theorem equal_ne {o1 o2 : Option Addr} {n1 n2 r1 r2 : Nat} (hr : r1 ≠ r2) :
    Calls Try.prog 20 #[.agg #[.pointer o1, .int .i64 (n1 : Int), .int .i64 (r1 : Int)], .agg #[.pointer o2, .int .i64 (n2 : Int), .int .i64 (r2 : Int)]] w fun e w' => e = .returned (.bool false) ∧ Below w.heap.size w w' := by
  have hmf : ∀ (fn : Fn) (first cap : Array Value) (w : World), (Instr.makeFunc fn first cap).run Try.prog w = .ok (.func fn first cap) w := fun _ _ _ _ => rfl
  have f0 : ((r1 : Int) == (r2 : Int)) = false := beq_eq_false_iff_ne.2 (by omega)
  have f1 : ¬ r1 = r2 := hr
  clear hr
  go_enter_defers Try.func20, Try.ntmps20
  go_wp2_with fail
  refine wp_region_noPanic ?_
  go_region_with (fail)
  all_goals refine NoPanic.normal ?_
  all_goals go_wp2_with fail
  all_goals
    refine leaves_cons (f := 34) (args := #[ptr (w.heap.size + 1 + 1)]) (by simp) (by simp [go_sem]) ?_
    refine (equal1_idle (w.heap.size + 1 + 1) _).mono ?_
    rintro e u' w8 ⟨rfl, rfl, rfl⟩
    simp only [Leaves, settle, results, Try.results20]
    simp [go_sem]
    exact ((((Below.refl _ _).alloc (Nat.le_refl _) _).alloc (by simp) _).alloc (by simp; omega) _).drew
set_option maxRecDepth 100000 in
set_option maxHeartbeats 3200000 in
theorem equal_run {o1 o2 : Option Addr} {n1 n2 r : Nat} {ps qs : List Nat} {R : Bool}
    (ca : ∀ W, Below (w.heap.size + 3) (eqW w o1 o2 n1 r n2 r) W → Calls Try.prog 32 #[.agg #[.pointer o1, .int .i64 (n1 : Int), .int .i64 (r : Int)]] W (PPost W ps))
    (cb : ∀ W, Below (w.heap.size + 3) (eqW w o1 o2 n1 r n2 r) W → Calls Try.prog 32 #[.agg #[.pointer o2, .int .i64 (n2 : Int), .int .i64 (r : Int)]] W (PPost W qs))
    (ce : ∀ W a b, Below (w.heap.size + 3) (eqW w o1 o2 n1 r n2 r) W → Rd eP W a ps → Rd eP W b qs → Calls Try.prog 35 #[a, b, .func (.func 36) #[] #[]] W fun e w' => e = .returned (.bool R) ∧ Below W.heap.size W w') :
    Calls Try.prog 20 #[.agg #[.pointer o1, .int .i64 (n1 : Int), .int .i64 (r : Int)], .agg #[.pointer o2, .int .i64 (n2 : Int), .int .i64 (r : Int)]] w fun e w' => e = .returned (.bool R) ∧ Below w.heap.size w w' := by
  have hmf : ∀ (fn : Fn) (first cap : Array Value) (w : World), (Instr.makeFunc fn first cap).run Try.prog w = .ok (.func fn first cap) w := fun _ _ _ _ => rfl
  have hb0 : Below w.heap.size w (eqW w o1 o2 n1 r n2 r) := (((Below.refl _ _).alloc (Nat.le_refl _) _).alloc (by simp) _).alloc (by simp; omega) _
  have hs0 : (eqW w o1 o2 n1 r n2 r).heap.size = w.heap.size + 3 := by simp
  have a1 : At (eqW w o1 o2 n1 r n2 r) w.heap.size 26 #[.pointer o1, .int .i64 (n1 : Int), .int .i64 (r : Int)] := ((At.new w 26 _).alloc _).alloc _
  have a2 : At (eqW w o1 o2 n1 r n2 r) (w.heap.size + 1) 26 #[.pointer o2, .int .i64 (n2 : Int), .int .i64 (r : Int)] := by
    have := (At.new (w.alloc (.cells #[.pointer o1, .int .i64 (n1 : Int), .int .i64 (r : Int)] 26)) 26 #[.pointer o2, .int .i64 (n2 : Int), .int .i64 (r : Int)]).alloc (.cells #[.bool false] 4)
    have e : (w.alloc (.cells #[.pointer o1, .int .i64 (n1 : Int), .int .i64 (r : Int)] 26)).heap.size = w.heap.size + 1 := by simp
    rw [e] at this
    exact this
  have a3 : At (eqW w o1 o2 n1 r n2 r) (w.heap.size + 2) 4 #[.bool false] := by
    have := (At.new ((w.alloc (.cells #[.pointer o1, .int .i64 (n1 : Int), .int .i64 (r : Int)] 26)).alloc (.cells #[.pointer o2, .int .i64 (n2 : Int), .int .i64 (r : Int)] 26)) 4 #[.bool false])
    have e : ((w.alloc (.cells #[.pointer o1, .int .i64 (n1 : Int), .int .i64 (r : Int)] 26)).alloc (.cells #[.pointer o2, .int .i64 (n2 : Int), .int .i64 (r : Int)] 26)).heap.size = w.heap.size + 2 := by simp
    rw [e] at this
    exact this
  have HS := Lib.hid (fun W (hb : Below (w.heap.size + 3) (eqW w o1 o2 n1 r n2 r) W) => And.intro ((a1.below hb (by omega)).cell 0) (And.intro ((a1.below hb (by omega)).cell 1) (And.intro ((a1.below hb (by omega)).cell 2) (And.intro ((a2.below hb (by omega)).cell 0) (And.intro ((a2.below hb (by omega)).cell 1) ((a2.below hb (by omega)).cell 2))))))
  have H3 := Lib.hid (fun W (hb : Below (w.heap.size + 3) (eqW w o1 o2 n1 r n2 r) W) => a3.below hb (by omega))
  have BD := Lib.hid ((Below.refl (w.heap.size + 3) (eqW w o1 o2 n1 r n2 r)).drew)
  have HB0 := Lib.hid hb0
  have CA := Lib.hid ca; have CB := Lib.hid cb; have CE := Lib.hid ce
  have n3 : ¬ w.heap.size + 2 = w.heap.size := by omega
  clear a1 a2 a3 hb0 ca cb ce
  go_enter_defers Try.func20, Try.ntmps20
  go_wp2_with fail
  obtain ⟨w1, hw1⟩ : ∃ w1, eqW w o1 o2 n1 r n2 r = w1 := ⟨_, rfl⟩
  rw [hw1] at HS H3 BD HB0 CA CB CE hs0
  have hw2 : ((w.alloc (.cells #[.pointer o1, .int .i64 (n1 : Int), .int .i64 (r : Int)] 26)).alloc (.cells #[.pointer o2, .int .i64 (n2 : Int), .int .i64 (r : Int)] 26)).alloc (.cells #[.bool false] 4) = w1 := hw1
  rw [hw2]
  clear hw1 hw2
  have zd : w1.drew.heap.size = w1.heap.size := rfl
  go_region_held3 (fun w' => (w'.cell? ⟨w.heap.size, 0, none⟩ = some (.pointer o1) ∧ w'.cell? ⟨w.heap.size, 1, none⟩ = some (.int .i64 (n1 : Int)) ∧ w'.cell? ⟨w.heap.size, 2, none⟩ = some (.int .i64 (r : Int)) ∧ w'.cell? ⟨w.heap.size + 1, 0, none⟩ = some (.pointer o2) ∧ w'.cell? ⟨w.heap.size + 1, 1, none⟩ = some (.int .i64 (n2 : Int)) ∧ w'.cell? ⟨w.heap.size + 1, 2, none⟩ = some (.int .i64 (r : Int))))
    (first | exact HS.out _ BD.out | exact HS.out _ be | exact HS.out _ ba | exact HS.out _ bb | go_keep | fail)
    (first
      | (go_at_call 32; (with_reducible refine (CA.out _ bb).mono ?_); rintro e wa ⟨sa, rfl, oa, da⟩; have ba := bb.trans (da.mono (by have := bb.size; omega)); have ra := oa.rd; have rb := rb.below da; have la := ba)
      | (go_at_call 32; (with_reducible refine (CA.out _ BD.out).mono ?_); rintro e wa ⟨sa, rfl, oa, da⟩; have ba := BD.out.trans (da.mono (by omega)); have ra := oa.rd)
      | (go_at_call 32; (with_reducible refine (CB.out _ ba).mono ?_); rintro e wb ⟨sb, rfl, ob, db⟩; have bb := ba.trans (db.mono (by have := ba.size; omega)); have rb := ob.rd; have ra := ra.below db; have la := bb)
      | (go_at_call 32; (with_reducible refine (CB.out _ BD.out).mono ?_); rintro e wb ⟨sb, rfl, ob, db⟩; have bb := BD.out.trans (db.mono (by omega)); have rb := ob.rd)
      | (go_at_call 35; (with_reducible refine (CE.out _ _ _ la ra rb).mono ?_); rintro e we ⟨rfl, de⟩; have be := la.trans (de.mono (by have := la.size; omega)); have a4 := H3.out _ be; have d0 : we.cell? ⟨w.heap.size + 2, 0, none⟩ = some (.bool false) := (by rw [a4.cell]; rfl); have y0 := a4.frozen 0)
      | fail)
  all_goals go_wp2_with fail
  all_goals
    have hat : At (we.setCell ⟨w.heap.size + 1 + 1, 0, none⟩ (.bool R)) (w.heap.size + 1 + 1) 4 #[.bool R] := by simpa using At.set a4 0 (.bool R)
    have hc : (we.setCell ⟨w.heap.size + 1 + 1, 0, none⟩ (.bool R)).cell? ⟨w.heap.size + 1 + 1, 0, none⟩ = some (.bool R) := by rw [hat.cell]; rfl
    have hbf : Below w.heap.size w (we.setCell ⟨w.heap.size + 1 + 1, 0, none⟩ (.bool R)) := (HB0.out.trans (be.mono (by omega))).setCell (by simp; omega) _
    have HBF := Lib.hid hbf
    clear hbf hat a4 d0 y0
    generalize we.setCell ⟨w.heap.size + 1 + 1, 0, none⟩ (.bool R) = w6 at *
    refine leaves_cons (f := 34) (args := #[ptr (w.heap.size + 1 + 1)]) (by simp) (by simp [go_sem]) ?_
    refine (equal1_idle (w.heap.size + 1 + 1) _).mono ?_
    rintro e u' w8 ⟨rfl, rfl, rfl⟩
    simp only [Leaves, settle, results, Try.results20]
    simp [go_sem, hc]
    exact HBF.out
theorem len_its (t : T) : t.its.length = t.kvs.length := (T.kvs_length t).symm
/-- Equal: whether two have the same -/
theorem equal_any {r1 r2 : Nat} (hv : SAt w v l r1) (hu : SAt w u m r2) : Calls Try.prog 20 #[v, u] w fun e w' => e = .returned (.bool (decide (r1 = r2 ∧ l = m))) ∧ Below w.heap.size w w' := by
  obtain ⟨vt, t, rfl, ht, rfl, hr, h1, h2⟩ := hv
  obtain ⟨o, rfl⟩ := ht.ptr
  obtain ⟨ut, s, rfl, hs, rfl, hr2, h3, h4⟩ := hu
  obtain ⟨p, rfl⟩ := hs.ptr
  by_cases hroom : r1 = r2
  · subst hroom
    have hb0 : Below w.heap.size w (eqW w o p t.kvs.length r1 s.kvs.length r1) := (((Below.refl _ _).alloc (Nat.le_refl _) _).alloc (by simp) _).alloc (by simp; omega) _
    have step : ∀ W, Below (w.heap.size + 3) (eqW w o p t.kvs.length r1 s.kvs.length r1) W → Below w.heap.size w W := fun W hb => hb0.trans (hb.mono (by omega))
    have e : decide (r1 = r1 ∧ t.kvs = s.kvs) = decide (t.its.map (·.2) = s.its.map (·.2)) := by simp [T.kvs]
    rw [e]
    refine equal_run (ps := t.its.map (·.1)) (qs := s.its.map (·.1)) (fun W hb => pairs_any (ht.step (step W hb)) (by omega)) (fun W hb => pairs_any (hs.step (step W hb)) (by omega)) (fun W a b hb ha hb2 => ?_)
    exact eqf_any ha hb2 (fun y hy => (ht.its_at y hy).2.step (step W hb)) (fun y hy => (hs.its_at y hy).2.step (step W hb)) (by rw [len_its]; omega) (by rw [len_its]; omega)
  · rw [decide_eq_false (fun h => hroom h.1)]
    exact equal_ne hroom
end
end Go.Proofs.Ytdpgpdadgcogjaa
