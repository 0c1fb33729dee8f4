/- Keys: whether two have the same, where both have nothing. -/
import Derived.Test.YtedogbkkophghaaKyS
import Derived.Test.YtedogbkkophghaaShD
namespace Go.Proofs.Ytedogbkkophghaa.Sh
open Go.RowKit Go.Lib Plain
set_option linter.unusedVariables false
set_option linter.unusedSimpArgs false

set_option maxHeartbeats 400000 in
theorem equal1_idle (a : Nat) (w : World) :
    CallsD Try.prog 42 #[ptr a] .returning w fun e u' w' => e = .returned (.tuple #[]) ∧ u' = .returning ∧ w' = w := by
  refine callsD_of_wpS Try.func42 rfl fun c₀ cs hu => ?_
  apply wpS_seq
  apply wpS_region
  simp [wpOpsS, go_sem, recoverD, hu, Try.ntmps42, Exit.thenS]
  refine wpS_cond (t := false) (by simp [Act.eval, Array.replicate]) ?_
  simp only [Bool.false_eq_true, if_false]
  refine wpS_of_wp (wp_skip ?_)
  cases c₀
  simp_all [bodyPostS, results, Try.results42]
section
variable {w w' : World} {v u : Value} {l m : List KV} {room : Nat}
/-- the world in which Equal goes on -/
abbrev eqW (w : World) (o1 o2 : Option Addr) (n1 r1 n2 r2 : Nat) : World :=
  ((w.alloc (.cells #[.pointer o1, .int .i64 (n1 : Int), .int .i64 (r1 : Int)] 29)).alloc (.cells #[.pointer o2, .int .i64 (n2 : Int), .int .i64 (r2 : Int)] 29)).alloc (.cells #[.bool false] 4)
set_option maxRecDepth 100000 in
set_option maxHeartbeats 3200000 in
theorem equal_run {o1 o2 : Option Addr} {n1 n2 r : Nat} {ps qs : List Nat} {R : Bool}
    (ca : ∀ W, Below (w.heap.size + 3) (eqW w o1 o2 n1 r n2 r) W → Calls Try.prog 44 #[.agg #[.pointer o1, .int .i64 (n1 : Int), .int .i64 (r : Int)]] W (PPost W ps))
    (cb : ∀ W, Below (w.heap.size + 3) (eqW w o1 o2 n1 r n2 r) W → Calls Try.prog 44 #[.agg #[.pointer o2, .int .i64 (n2 : Int), .int .i64 (r : Int)]] W (PPost W qs))
    (ce : ∀ W a b, Below (w.heap.size + 3) (eqW w o1 o2 n1 r n2 r) W → Rd eP W a ps → Rd eP W b qs → Calls Try.prog 43 #[a, b, .func (.func 45) #[] #[]] W fun e w' => e = .returned (.bool R) ∧ Below W.heap.size W w') :
    Calls Try.prog 32 #[.agg #[.pointer o1, .int .i64 (n1 : Int), .int .i64 (r : Int)], .agg #[.pointer o2, .int .i64 (n2 : Int), .int .i64 (r : Int)]] w fun e w' => e = .returned (.bool R) ∧ Below w.heap.size w w' := by
  have hmf : ∀ (fn : Fn) (first cap : Array Value) (w : World), (Instr.makeFunc fn first cap).run Try.prog w = .ok (.func fn first cap) w := fun _ _ _ _ => rfl
  have hb0 : Below w.heap.size w (eqW w o1 o2 n1 r n2 r) := (((Below.refl _ _).alloc (Nat.le_refl _) _).alloc (by simp) _).alloc (by simp; omega) _
  have hs0 : (eqW w o1 o2 n1 r n2 r).heap.size = w.heap.size + 3 := by simp
  have a1 : At (eqW w o1 o2 n1 r n2 r) w.heap.size 29 #[.pointer o1, .int .i64 (n1 : Int), .int .i64 (r : Int)] := ((At.new w 29 _).alloc _).alloc _
  have a2 : At (eqW w o1 o2 n1 r n2 r) (w.heap.size + 1) 29 #[.pointer o2, .int .i64 (n2 : Int), .int .i64 (r : Int)] := by
    have := (At.new (w.alloc (.cells #[.pointer o1, .int .i64 (n1 : Int), .int .i64 (r : Int)] 29)) 29 #[.pointer o2, .int .i64 (n2 : Int), .int .i64 (r : Int)]).alloc (.cells #[.bool false] 4)
    have e : (w.alloc (.cells #[.pointer o1, .int .i64 (n1 : Int), .int .i64 (r : Int)] 29)).heap.size = w.heap.size + 1 := by simp
    rw [e] at this
    exact this
  have a3 : At (eqW w o1 o2 n1 r n2 r) (w.heap.size + 2) 4 #[.bool false] := by
    have := (At.new ((w.alloc (.cells #[.pointer o1, .int .i64 (n1 : Int), .int .i64 (r : Int)] 29)).alloc (.cells #[.pointer o2, .int .i64 (n2 : Int), .int .i64 (r : Int)] 29)) 4 #[.bool false])
    have e : ((w.alloc (.cells #[.pointer o1, .int .i64 (n1 : Int), .int .i64 (r : Int)] 29)).alloc (.cells #[.pointer o2, .int .i64 (n2 : Int), .int .i64 (r : Int)] 29)).heap.size = w.heap.size + 2 := by simp
    rw [e] at this
    exact this
  have HS := Lib.hid (fun W (hb : Below (w.heap.size + 3) (eqW w o1 o2 n1 r n2 r) W) => And.intro ((a1.below hb (by omega)).cell 0) (And.intro ((a1.below hb (by omega)).cell 1) (And.intro ((a1.below hb (by omega)).cell 2) (And.intro ((a2.below hb (by omega)).cell 0) (And.intro ((a2.below hb (by omega)).cell 1) ((a2.below hb (by omega)).cell 2))))))
  have H3 := Lib.hid (fun W (hb : Below (w.heap.size + 3) (eqW w o1 o2 n1 r n2 r) W) => a3.below hb (by omega))
  have BD := Lib.hid ((Below.refl (w.heap.size + 3) (eqW w o1 o2 n1 r n2 r)).drew)
  have HB0 := Lib.hid hb0
  have CA := Lib.hid ca; have CB := Lib.hid cb; have CE := Lib.hid ce
  have n3 : ¬ w.heap.size + 2 = w.heap.size := by omega
  clear a1 a2 a3 hb0 ca cb ce
  go_enter_defers Try.func32, Try.ntmps32
  go_wp2_with fail
  obtain ⟨w1, hw1⟩ : ∃ w1, eqW w o1 o2 n1 r n2 r = w1 := ⟨_, rfl⟩
  rw [hw1] at HS H3 BD HB0 CA CB CE hs0
  have hw2 : ((w.alloc (.cells #[.pointer o1, .int .i64 (n1 : Int), .int .i64 (r : Int)] 29)).alloc (.cells #[.pointer o2, .int .i64 (n2 : Int), .int .i64 (r : Int)] 29)).alloc (.cells #[.bool false] 4) = w1 := hw1
  rw [hw2]
  clear hw1 hw2
  have zd : w1.drew.heap.size = w1.heap.size := rfl
  go_region_held3 (fun w' => (w'.cell? ⟨w.heap.size, 0, none⟩ = some (.pointer o1) ∧ w'.cell? ⟨w.heap.size, 1, none⟩ = some (.int .i64 (n1 : Int)) ∧ w'.cell? ⟨w.heap.size, 2, none⟩ = some (.int .i64 (r : Int)) ∧ w'.cell? ⟨w.heap.size + 1, 0, none⟩ = some (.pointer o2) ∧ w'.cell? ⟨w.heap.size + 1, 1, none⟩ = some (.int .i64 (n2 : Int)) ∧ w'.cell? ⟨w.heap.size + 1, 2, none⟩ = some (.int .i64 (r : Int))))
    (first | exact HS.out _ BD.out | exact HS.out _ be | exact HS.out _ ba | exact HS.out _ bb | go_keep | fail)
    (first
      | (go_at_call 44; (with_reducible refine (CA.out _ bb).mono ?_); rintro e wa ⟨sa, rfl, oa, da⟩; have ba := bb.trans (da.mono (by have := bb.size; omega)); have ra := oa.rd; have rb := rb.below da; have la := ba)
      | (go_at_call 44; (with_reducible refine (CA.out _ BD.out).mono ?_); rintro e wa ⟨sa, rfl, oa, da⟩; have ba := BD.out.trans (da.mono (by omega)); have ra := oa.rd)
      | (go_at_call 44; (with_reducible refine (CB.out _ ba).mono ?_); rintro e wb ⟨sb, rfl, ob, db⟩; have bb := ba.trans (db.mono (by have := ba.size; omega)); have rb := ob.rd; have ra := ra.below db; have la := bb)
      | (go_at_call 44; (with_reducible refine (CB.out _ BD.out).mono ?_); rintro e wb ⟨sb, rfl, ob, db⟩; have bb := BD.out.trans (db.mono (by omega)); have rb := ob.rd)
      | (go_at_call 43; (with_reducible refine (CE.out _ _ _ la ra rb).mono ?_); rintro e we ⟨rfl, de⟩; have be := la.trans (de.mono (by have := la.size; omega)); have a4 := H3.out _ be; have d0 : we.cell? ⟨w.heap.size + 2, 0, none⟩ = some (.bool false) := (by rw [a4.cell]; rfl); have y0 := a4.frozen 0)
      | fail)
  all_goals go_wp2_with fail
  all_goals
    have hat : At (we.setCell ⟨w.heap.size + 1 + 1, 0, none⟩ (.bool R)) (w.heap.size + 1 + 1) 4 #[.bool R] := by simpa using At.set a4 0 (.bool R)
    have hc : (we.setCell ⟨w.heap.size + 1 + 1, 0, none⟩ (.bool R)).cell? ⟨w.heap.size + 1 + 1, 0, none⟩ = some (.bool R) := by rw [hat.cell]; rfl
    have hbf : Below w.heap.size w (we.setCell ⟨w.heap.size + 1 + 1, 0, none⟩ (.bool R)) := (HB0.out.trans (be.mono (by omega))).setCell (by simp; omega) _
    have HBF := Lib.hid hbf
    clear hbf hat a4 d0 y0
    generalize we.setCell ⟨w.heap.size + 1 + 1, 0, none⟩ (.bool R) = w6 at *
    refine leaves_cons (f := 42) (args := #[ptr (w.heap.size + 1 + 1)]) (by simp) (by simp [go_sem]) ?_
    refine (equal1_idle (w.heap.size + 1 + 1) _).mono ?_
    rintro e u' w8 ⟨rfl, rfl, rfl⟩
    simp only [Leaves, settle, results, Try.results32]
    simp [go_sem, hc]
    exact HBF.out
set_option maxRecDepth 100000 in
set_option maxHeartbeats 1600000 in
theorem eqf_zero {a b : Value} (hu : Rd eP w a []) (hv : Rd eP w b []) : Calls Try.prog 43 #[a, b, .func (.func 45) #[] #[]] w fun e w' => e = .returned (.bool true) ∧ Below w.heap.size w w' := by
  obtain ⟨O1, c1, rfl, _⟩ := hu
  obtain ⟨O2, c2, rfl, _⟩ := hv
  simp only [List.length_nil]
  go_enter Try.func43, Try.ntmps43
  go_wp2_with fail
  go_loopg [17] 0 (fun gh s17 wx => s17 = .int .i64 0 ∧ wx = w)
  case atStart => exact ⟨rfl, rfl⟩
  case round =>
    obtain ⟨rfl, rfl⟩ := hrel
    go_wp2_with fail
    go_ret
    exact ⟨rfl, Below.refl _ _⟩
theorem equal_zero (w : World) : Calls Try.prog 32 #[.agg #[.pointer none, .int .i64 0, .int .i64 0], .agg #[.pointer none, .int .i64 0, .int .i64 0]] w fun e w' => e = .returned (.bool true) ∧ Below w.heap.size w w' :=
  equal_run (o1 := none) (o2 := none) (n1 := 0) (n2 := 0) (r := 0) (ps := []) (qs := []) (fun W _ => pairs_any (v := .pointer none) (t := .nil) (room := 0) rfl (by decide)) (fun W _ => pairs_any (v := .pointer none) (t := .nil) (room := 0) rfl (by decide)) (fun W a b _ ha hb => eqf_zero ha hb)
end
end Go.Proofs.Ytedogbkkophghaa.Sh
namespace Go.Proofs.Ytedogbkkophghaa
open Go.RowKit Go.Lib
set_option linter.unusedVariables false
set_option linter.unusedSimpArgs false
theorem part_int {t : TypeId} {k : IntKind} (ht : Try.prog.underlying t = some (.int k)) {xs : Array Value} {off : Nat} {v : Value} (h : xs[off]? = some v) (w : World) : (part t xs off).run Try.prog w = .ok v w := by
  have hagg : (isAgg t).run Try.prog w = .ok false w := by
    unfold isAgg
    rw [Sem.run_bind, run_underlying ht w]
    simp
  simp [part, Sem.run_bind, hagg, h]
theorem eq_fields {xs : Array Value} (d : Nat) (w : World) : ∀ fs : List Field, (∀ f ∈ fs, (f.type = 3 ∨ f.type = 22) ∧ ∃ k n, xs[f.offset]? = some (.int k n)) → (Op.eqFields (d + 1) xs xs fs).run Try.prog w = .ok true w
  | [], _ => by simp [Op.eqFields]
  | f :: fs, h => by
    have ih := eq_fields d w fs (fun g hg => h g (by simp [hg]))
    obtain ⟨ht, k, n, hv⟩ := h f (by simp)
    obtain ⟨k', hu⟩ : ∃ k', Try.prog.underlying f.type = some (.int k') := by
      rcases ht with e | e
      · exact ⟨_, by rw [e]; exact Try.underlying3⟩
      · exact ⟨_, by rw [e]; exact Try.underlying22⟩
    unfold Op.eqFields
    split
    · rw [Sem.run_bind, part_int hu hv w, Result.andThen_ok, Sem.run_bind, part_int hu hv w, Result.andThen_ok, Sem.run_bind, run_equalIn_int w d f.type k k' n n hu, Result.andThen_ok]
      simp [ih]
    · exact ih
theorem fields_small : (Try.prog.fieldsOf 24).toList.all (fun f => (f.type == 3 || f.type == 22) && decide (f.offset < 18)) = true := by kernel_rfl
theorem cells_int (c : Cfg) {k : Nat} (h : k < 18) : ∃ q n, c.cells[k]? = some (.int q n) := by
  by_cases h1 : k < 17
  · exact ⟨_, _, c.at_ h1⟩
  · obtain rfl : k = 17 := by omega
    exact ⟨_, _, c.atS⟩
set_option maxRecDepth 100000 in
theorem eq24 (c : Cfg) (w : World) : (Op.equalIn 10000 24 c.V c.V).run Try.prog w = .ok true w := by
  rw [run_equalIn_struct w 9999 24 c.cells c.cells (by rw [Try.underlying24]; congr 1) (by kernel_rfl)]
  refine eq_fields 9998 w _ fun f hf => ?_
  have := List.all_eq_true.1 fields_small f hf
  simp at this
  exact ⟨this.1, cells_int c this.2⟩
section
variable {ρ : Operand → Value} {w : World} {d : Option Tmp} {t t2 : TypeId} {pos : String} {af : Array Edge} {gd : Option (Nat × Bool)} {x y : Operand}
theorem run_eql24 {c : Cfg} (e1 : ρ x = c.V) (e2 : ρ y = c.V) : (execOp ρ { dst := d, op := Op.binOp .eql 24 x y t2, type := t, pos := pos, after := af, guard := gd }).run Try.prog w = .ok (.value (.bool true)) w := by
  unfold execOp
  simp only [e1, e2, Sem.run_bind, run_eqGuard_agg (P := Try.prog) w .eql 24 x y c.cells c.cells (by kernel_rfl), Result.andThen_ok, run_eql_struct, eq24 c, Sem.run_pure]
end
theorem wpList_eql_cat {ops : Array Oper} {rest : List Oper} {o : Oper} {a : Act} {w : World} {Q : Exit → Act → World → Prop} {c : Cfg} (x y : Tmp) (t2 : TypeId) (ho : o.op = .binOp .eql 24 (.tmp x) (.tmp y) t2) (hgd : Region.wanted o (yielded ops a.tmps) = true) (e1 : a.eval (.tmp x) = c.V) (e2 : a.eval (.tmp y) = c.V)
    (k : wpList Try.prog ops Q rest (a.put o.dst (.bool true)) w) : wpList Try.prog ops Q (o :: rest) a w := by
  obtain ⟨d, op, t, pos, af, gd⟩ := o
  subst ho
  exact wpList_run hgd _ (run_eql24 e1 e2) k
set_option maxRecDepth 100000 in
set_option maxHeartbeats 1600000 in
theorem keysEqual_zero (w : World) : Calls Try.prog 18 #[zy.V none, zy.V none] w fun e w' => e = .returned (.bool true) ∧ Below w.heap.size w w' := by
  have H := Lib.hid (new2 w (zy.cells none) (zy.cells none) 31 31)
  have CE := Lib.hid (fun W => Sh.equal_zero W)
  go_enter Try.func18, Try.ntmps18
  go_upto_region 1 with fail
  obtain ⟨W, hW⟩ : ∃ W, (w.alloc (.cells (zy.cells none) 31)).alloc (.cells (zy.cells none) 31) = W := ⟨_, rfl⟩
  rw [hW] at H ⊢; clear hW
  have K1 : Hid (W.rangeAt w.heap.size 0 zc.cells.toList) := Lib.hid (KyAt.kc (b := zy) H.out.2.1)
  have K2 : Hid (W.rangeAt (w.heap.size + 1) 0 zc.cells.toList) := Lib.hid (KyAt.kc (b := zy) H.out.2.2)
  have L1 : Hid (W.rangeAt w.heap.size 18 [.pointer none, .int .i64 ((0 : Nat) : Int), .int .i64 ((0 : Nat) : Int)]) := Lib.hid (KyAt.lv (b := zy) H.out.2.1)
  have L2 : Hid (W.rangeAt (w.heap.size + 1) 18 [.pointer none, .int .i64 ((0 : Nat) : Int), .int .i64 ((0 : Nat) : Int)]) := Lib.hid (KyAt.lv (b := zy) H.out.2.2)
  have HB := Lib.hid H.out.1; clear H
  generalize w.heap.size + 1 = q at *
  go_wp2_with (first | ((with_reducible apply wpList_load_cpart (c := zc) (h := K1.out)); exact rfl; exact rfl; exact rfl) | ((with_reducible apply wpList_load_cpart (c := zc) (h := K2.out)); exact rfl; exact rfl; exact rfl) | ((with_reducible apply wpList_eql_cat (c := zc)); exact rfl; exact rfl; exact rfl; exact rfl) | ((with_reducible apply wpList_load_sv (h := L1.out)); exact rfl; exact rfl; exact rfl) | ((with_reducible apply wpList_load_sv (h := L2.out)); exact rfl; exact rfl; exact rfl) | (go_at_call 32; (refine (CE.out _).mono ?_); rintro e w1 ⟨rfl, hb1⟩))
  go_ret
  exact ⟨rfl, HB.out.trans (hb1.mono HB.out.size)⟩
end Go.Proofs.Ytedogbkkophghaa
