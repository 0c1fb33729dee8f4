/- The contracts of samePair and slices.EqualFunc. -/
import Derived.Test.YtlmdhkaplemjpaaGreatShC
namespace Go.Proofs.YtlmdhkaplemjpaaGreat.Sh
open Go.RowKit Go.Lib Plain
set_option linter.unusedVariables false

theorem wpQuiet_run {P : Program} {ops : Array Oper} {w : World} {Q : Act → Prop} {a : Act} {o : Oper} {rest : List Oper} (hgd : Region.wanted o (yielded ops a.tmps) = true) (v : Value)
    (hrun : ∀ n, (execOp a.eval o).run P (w.drewN n) = .ok (.value v) (w.drewN n)) (k : wpQuiet P ops (fun w' => ∃ n, w' = w.drewN n) Q rest (a.put o.dst v)) : wpQuiet P ops (fun w' => ∃ n, w' = w.drewN n) Q (o :: rest) a := by
  unfold wpQuiet
  rw [if_pos hgd]
  refine ⟨v, fun W hW => ?_, k⟩
  obtain ⟨n, rfl⟩ := hW
  unfold Oper.quietAt
  rw [hrun n]
  exact ⟨rfl, rfl⟩
theorem wpQuiet_load_kpart {ops : Array Oper} {w : World} {Q : Act → Prop} {a : Act} {o : Oper} {rest : List Oper} (x : Tmp) (ho : o.op = .load 46 (.tmp x)) (hgd : Region.wanted o (yielded ops a.tmps) = true) {p off : Nat} {c : K} (e : a.eval (.tmp x) = YtlmdhkaplemjpaaGreat.ptr p off) (h : ∀ n, (w.drewN n).rangeAt p off c.cells.toList)
    (k : wpQuiet Tryz.prog ops (fun w' => ∃ n, w' = w.drewN n) Q rest (a.put o.dst c.V)) : wpQuiet Tryz.prog ops (fun w' => ∃ n, w' = w.drewN n) Q (o :: rest) a := by
  refine wpQuiet_run hgd c.V (fun n => ?_) k
  unfold execOp
  simp only [ho, e, Instr.loadAt, Instr.sureAddr, Sem.run_bind, Sem.run_pure, Result.andThen_ok, run_loadVar_mid (P := Tryz.prog) (w.drewN n) p off 46 c.cells.toList _ (h n) Tryz.underlying46 rfl (size26 c), Array.toArray_toList]
theorem wpQuiet_eql_k {ops : Array Oper} {w : World} {Q : Act → Prop} {a : Act} {o : Oper} {rest : List Oper} (x y : Tmp) (t2 : TypeId) (ho : o.op = .binOp .eql 46 (.tmp x) (.tmp y) t2) (hgd : Region.wanted o (yielded ops a.tmps) = true) {c d : K} (e1 : a.eval (.tmp x) = c.V) (e2 : a.eval (.tmp y) = d.V) {b : Bool} (hb : c.beq d = b)
    (k : wpQuiet Tryz.prog ops (fun w' => ∃ n, w' = w.drewN n) Q rest (a.put o.dst (.bool b))) : wpQuiet Tryz.prog ops (fun w' => ∃ n, w' = w.drewN n) Q (o :: rest) a := by
  obtain ⟨dd, op, t, pos, af, gd⟩ := o
  subst ho
  subst hb
  exact wpQuiet_run hgd _ (fun n => run_eql26 e1 e2) k
section
variable {w w' : World} {v u : Value} {l : List KV} {room : Nat}
set_option maxRecDepth 100000 in
set_option maxHeartbeats 1600000 in
theorem same_any {p q : Nat} {x y : KV} (hp : PAt w p x) (hq : PAt w q y) : Calls Tryz.prog 76 #[ptr p, ptr q] w fun e w' => e = .returned (.bool (decide (x = y))) ∧ Below w.heap.size w w' := by
  have c0 := hp.c0; have d0 := hq.c0
  have HV1 := Lib.hid (fun n => (hp.keep (below_drewN (Below.refl _ _) n) hp.lt).val)
  have HV2 := Lib.hid (fun n => (hq.keep (below_drewN (Below.refl _ _) n) hq.lt).val)
  have CC := Lib.hid (fun n => compare_any x.1 y.1 (w.drewN n))
  have HB0 := Lib.hid (Below.refl w.heap.size w)
  by_cases hk : x.1 = y.1
  · rw [show side x.1 y.1 = 0 by rw [hk]; exact side_eq _] at CC
    have hd : decide (x = y) = x.2.beq y.2 := by
      by_cases h2 : x.2 = y.2
      · rw [decide_eq_true (Prod.ext hk h2), h2, K.beq_self]
      · rw [decide_eq_false (fun e => h2 (by rw [e])), K.beq_ne h2]
    rw [hd]
    clear hp hq hk hd
    go_enter Tryz.func76, Tryz.ntmps76
    go_wp2_with fail
    refine wp_region_quiet_lit (by kernel_rfl) (by kernel_rfl) ?_
    repeat (first
      | ((with_reducible apply wpQuiet_load_kpart (c := x.2) (h := HV1.out)); exact rfl; exact rfl; exact rfl)
      | ((with_reducible apply wpQuiet_load_kpart (c := y.2) (h := HV2.out)); exact rfl; exact rfl; exact rfl)
      | ((with_reducible apply wpQuiet_eql_k (c := x.2) (d := y.2) (hb := rfl)); exact rfl; exact rfl; exact rfl; exact rfl)
      | quiet_step ((go_at_call 105; (with_reducible exact quietR (CC.out _)))))
    refine wpQuiet_nil ?_
    intro _ hw'
    obtain ⟨nq, hw''⟩ := hw'
    subst hw''
    go_wp2_with fail
    go_ret
    exact ⟨rfl, below_drewN HB0.out _⟩
  · have hs : ∃ s : Int, side x.1 y.1 = s ∧ (s == 0) = false := by
      rcases side_cases x.1 y.1 with ⟨_, e⟩ | ⟨h, _⟩ | ⟨_, e⟩
      · exact ⟨-1, e, rfl⟩
      · exact absurd h hk
      · exact ⟨1, e, rfl⟩
    obtain ⟨s, hs, h0⟩ := hs
    rw [hs] at CC
    have hd : decide (x = y) = false := decide_eq_false (fun e => hk (by rw [e]))
    rw [hd]
    clear hp hq hk hd hs
    go_enter Tryz.func76, Tryz.ntmps76
    go_wp2_with fail
    go_quiet ((go_at_call 105; (with_reducible exact quietR (CC.out _))))
    go_wp2_with fail
    go_ret
    exact ⟨rfl, below_drewN HB0.out _⟩
/-- all the same so far -/
def sameTo (xs ys : List KV) (j : Nat) : Prop := ∀ i, i < j → xs[i]? = ys[i]?
set_option maxRecDepth 100000 in
set_option maxHeartbeats 1600000 in
theorem eqf_any {ps qs : List (Nat × KV)} (hu : Rd eP w u (ps.map (·.1))) (hv : Rd eP w v (qs.map (·.1))) (hp : ∀ y ∈ ps, PAt w y.1 y.2) (hq : ∀ y ∈ qs, PAt w y.1 y.2) (hn : ps.length ≤ 70000) (hn2 : qs.length ≤ 70000) :
    Calls Tryz.prog 74 #[u, v, .func (.func 76) #[] #[]] w fun e w' => e = .returned (.bool (decide (ps.map (·.2) = qs.map (·.2)))) ∧ Below w.heap.size w w' := by
  obtain ⟨O, cu, rfl, hcu, _⟩ := id hu
  obtain ⟨Q, cv, rfl, hcv, _⟩ := id hv
  rw [List.length_map] at hu hv hcu hcv ⊢
  rw [List.length_map]
  by_cases hl : ps.length = qs.length
  · have HU := Lib.hid hu; have HV := Lib.hid hv; have HP := Lib.hid hp; have HQ := Lib.hid hq; have HL := Lib.hid hl; have HN := Lib.hid hn
    clear hu hv hp hq hcu hcv hn hn2
    rw [hl]
    obtain ⟨n, hnn⟩ : ∃ n, qs.length = n := ⟨_, rfl⟩
    rw [hl, hnn] at HN; rw [hl, hnn] at HU; rw [hnn] at HV; rw [hnn] at HL
    rw [hnn]
    have HNN := Lib.hid hnn
    clear hl hnn
    go_enter Tryz.func74, Tryz.ntmps74
    go_wp2_with fail
    go_loopg [17] n (fun gh s17 wx => ∃ j : Nat, j ≤ n ∧ gh = n - j ∧ s17 = .int .i64 (j : Int) ∧ Below w.heap.size w wx ∧ sameTo (ps.map (·.2)) (qs.map (·.2)) j)
    case atStart => exact ⟨0, Nat.zero_le _, rfl, rfl, Below.refl _ _, fun i hi => absurd hi (by omega)⟩
    case round =>
      obtain ⟨j, hj, hg, rfl, hb, hsm⟩ := hrel
      have HG := Lib.hid hg; have HB := Lib.hid hb; have HS := Lib.hid hsm; clear hg hb hsm
      by_cases hlt : j < n
      · have h1 : j < ps.length := by rw [HL.out]; exact hlt
        have h2 : j < qs.length := by rw [HNN.out]; exact hlt
        have e1 : ps[j]? = some ps[j] := List.getElem?_eq_getElem h1
        have e2 : qs[j]? = some qs[j] := List.getElem?_eq_getElem h2
        obtain ⟨b1, o1, rfl, l1, k1⟩ := HU.out.cellP (i := j) (p := ps[j].1) (by rw [List.getElem?_map, e1]; rfl)
        obtain ⟨b2, o2, rfl, l2, k2⟩ := HV.out.cellP (i := j) (p := qs[j].1) (by rw [List.getElem?_map, e2]; rfl)
        have m1 : wr.cell? ⟨b1, o1 + j, none⟩ = some (ptr ps[j].1) := by rw [HB.out.cell (p := ⟨b1, o1 + j, none⟩) l1]; exact k1
        have m2 : wr.cell? ⟨b2, o2 + j, none⟩ = some (ptr qs[j].1) := by rw [HB.out.cell (p := ⟨b2, o2 + j, none⟩) l2]; exact k2
        have CS := Lib.hid (same_any ((HP.out _ (List.getElem_mem h1)).step HB.out) ((HQ.out _ (List.getElem_mem h2)).step HB.out))
        have f1 : (ps.map (·.2))[j]? = some ps[j].2 := by rw [List.getElem?_map, e1]; rfl
        have f2 : (qs.map (·.2))[j]? = some qs[j].2 := by rw [List.getElem?_map, e2]; rfl
        have F1 := Lib.hid f1; have F2 := Lib.hid f2
        generalize ps[j] = x at *
        generalize qs[j] = y at *
        clear k1 k2 l1 l2 e1 e2 f1 f2 h1 h2
        have b3 : (j : Int) < (n : Int) := by omega
        have b4 : (0 : Int) ≤ (j : Int) := by omega
        by_cases hxy : x.2 = y.2
        · rw [decide_eq_true hxy] at CS
          have HXY := Lib.hid hxy; clear hxy
          go_wp2_with (first | (go_at_call 76; (with_reducible refine CS.out.mono ?_); rintro e w4 ⟨rfl, hb4⟩))
          go_roundg (n - (j + 1))
          case measure => have := HG.out; omega
          case rel => exact ⟨j + 1, by omega, rfl, (by have := HN.out; rw [IntWalk.wrap64_in _ (by omega)]; rfl), HB.out.trans (hb4.mono HB.out.size), fun i hi => by
            by_cases hij : i < j
            · exact HS.out i hij
            · obtain rfl : i = j := by omega
              rw [F1.out, F2.out, HXY.out]⟩
        · rw [decide_eq_false hxy] at CS
          have HXY := Lib.hid hxy; clear hxy
          go_wp2_with (first | (go_at_call 76; (with_reducible refine CS.out.mono ?_); rintro e w4 ⟨rfl, hb4⟩))
          go_ret
          refine ⟨?_, HB.out.trans (hb4.mono HB.out.size)⟩
          rw [decide_eq_false (fun e => HXY.out (by have h := F1.out; rw [e, F2.out] at h; injection h with h; exact h.symm))]
          rfl
      · obtain rfl : j = n := by omega
        go_wp2_with fail
        go_ret
        refine ⟨?_, HB.out⟩
        have : ps.map (·.2) = qs.map (·.2) := by
          apply List.ext_getElem?
          intro i
          by_cases hi : i < j
          · exact HS.out i hi
          · rw [List.getElem?_eq_none (by rw [List.length_map, HL.out]; omega), List.getElem?_eq_none (by rw [List.length_map, HNN.out]; omega)]
        rw [decide_eq_true this]
        rfl
  · have hd : decide (ps.map (·.2) = qs.map (·.2)) = false := decide_eq_false (fun e => hl (by have := congrArg List.length e; simpa using this))
    rw [hd]
    have f0 : ¬ (ps.length : Int) = (qs.length : Int) := by omega
    clear hu hv hp hq hl hd
    go_enter Tryz.func74, Tryz.ntmps74
    go_wp2_with fail
    go_ret
    exact ⟨rfl, Below.refl _ _⟩
end
end Go.Proofs.YtlmdhkaplemjpaaGreat.Sh
/- The contract of Equal. -/
namespace Go.Proofs.YtlmdhkaplemjpaaGreat.Sh
open Go.RowKit Go.Lib Plain
set_option linter.unusedVariables false

set_option maxHeartbeats 400000 in
theorem equal1_idle (a : Nat) (w : World) :
    CallsD Tryz.prog 73 #[ptr a] .returning w fun e u' w' => e = .returned (.tuple #[]) ∧ u' = .returning ∧ w' = w := by
  refine callsD_of_wpS Tryz.func73 rfl fun c₀ cs hu => ?_
  apply wpS_seq
  apply wpS_region
  simp [wpOpsS, go_sem, recoverD, hu, Tryz.ntmps73, Exit.thenS]
  refine wpS_cond (t := false) (by simp [Act.eval, Array.replicate]) ?_
  simp only [Bool.false_eq_true, if_false]
  refine wpS_of_wp (wp_skip ?_)
  cases c₀
  simp_all [bodyPostS, results, Tryz.results73]
section
variable {w w' : World} {v u : Value} {l m : List KV} {room : Nat}
/-- the world in which Equal goes on -/
abbrev eqW (w : World) (o1 o2 : Option Addr) (n1 r1 n2 r2 : Nat) : World :=
  ((w.alloc (.cells #[.pointer o1, .int .i64 (n1 : Int), .int .i64 (r1 : Int)] 34)).alloc (.cells #[.pointer o2, .int .i64 (n2 : Int), .int .i64 (r2 : Int)] 34)).alloc (.cells #[.bool false] 4)
set_option maxRecDepth 100000 in
set_option maxHeartbeats 3200000 in
theorem equal_ne {o1 o2 : Option Addr} {n1 n2 r1 r2 : Nat} (hr : r1 ≠ r2) :
    Calls Tryz.prog 51 #[.agg #[.pointer o1, .int .i64 (n1 : Int), .int .i64 (r1 : Int)], .agg #[.pointer o2, .int .i64 (n2 : Int), .int .i64 (r2 : Int)]] w fun e w' => e = .returned (.bool false) ∧ Below w.heap.size w w' := by
  have hmf : ∀ (fn : Fn) (first cap : Array Value) (w : World), (Instr.makeFunc fn first cap).run Tryz.prog w = .ok (.func fn first cap) w := fun _ _ _ _ => rfl
  have f0 : ((r1 : Int) == (r2 : Int)) = false := beq_eq_false_iff_ne.2 (by omega)
  have f1 : ¬ r1 = r2 := hr
  clear hr
  go_enter_defers Tryz.func51, Tryz.ntmps51
  go_wp2_with fail
  refine wp_region_noPanic ?_
  go_region_with (fail)
  all_goals refine NoPanic.normal ?_
  all_goals go_wp2_with fail
  all_goals
    refine leaves_cons (f := 73) (args := #[ptr (w.heap.size + 1 + 1)]) (by simp) (by simp [go_sem]) ?_
    refine (equal1_idle (w.heap.size + 1 + 1) _).mono ?_
    rintro e u' w8 ⟨rfl, rfl, rfl⟩
    simp only [Leaves, settle, results, Tryz.results51]
    simp [go_sem]
    exact ((((Below.refl _ _).alloc (Nat.le_refl _) _).alloc (by simp) _).alloc (by simp; omega) _).drew
set_option maxRecDepth 100000 in
set_option maxHeartbeats 3200000 in
theorem equal_run {o1 o2 : Option Addr} {n1 n2 r : Nat} {ps qs : List Nat} {R : Bool}
    (ca : ∀ W, Below (w.heap.size + 3) (eqW w o1 o2 n1 r n2 r) W → Calls Tryz.prog 75 #[.agg #[.pointer o1, .int .i64 (n1 : Int), .int .i64 (r : Int)]] W (PPost W ps))
    (cb : ∀ W, Below (w.heap.size + 3) (eqW w o1 o2 n1 r n2 r) W → Calls Tryz.prog 75 #[.agg #[.pointer o2, .int .i64 (n2 : Int), .int .i64 (r : Int)]] W (PPost W qs))
    (ce : ∀ W a b, Below (w.heap.size + 3) (eqW w o1 o2 n1 r n2 r) W → Rd eP W a ps → Rd eP W b qs → Calls Tryz.prog 74 #[a, b, .func (.func 76) #[] #[]] W fun e w' => e = .returned (.bool R) ∧ Below W.heap.size W w') :
    Calls Tryz.prog 51 #[.agg #[.pointer o1, .int .i64 (n1 : Int), .int .i64 (r : Int)], .agg #[.pointer o2, .int .i64 (n2 : Int), .int .i64 (r : Int)]] w fun e w' => e = .returned (.bool R) ∧ Below w.heap.size w w' := by
  have hmf : ∀ (fn : Fn) (first cap : Array Value) (w : World), (Instr.makeFunc fn first cap).run Tryz.prog w = .ok (.func fn first cap) w := fun _ _ _ _ => rfl
  have hb0 : Below w.heap.size w (eqW w o1 o2 n1 r n2 r) := (((Below.refl _ _).alloc (Nat.le_refl _) _).alloc (by simp) _).alloc (by simp; omega) _
  have hs0 : (eqW w o1 o2 n1 r n2 r).heap.size = w.heap.size + 3 := by simp
  have a1 : At (eqW w o1 o2 n1 r n2 r) w.heap.size 34 #[.pointer o1, .int .i64 (n1 : Int), .int .i64 (r : Int)] := ((At.new w 34 _).alloc _).alloc _
  have a2 : At (eqW w o1 o2 n1 r n2 r) (w.heap.size + 1) 34 #[.pointer o2, .int .i64 (n2 : Int), .int .i64 (r : Int)] := by
    have := (At.new (w.alloc (.cells #[.pointer o1, .int .i64 (n1 : Int), .int .i64 (r : Int)] 34)) 34 #[.pointer o2, .int .i64 (n2 : Int), .int .i64 (r : Int)]).alloc (.cells #[.bool false] 4)
    have e : (w.alloc (.cells #[.pointer o1, .int .i64 (n1 : Int), .int .i64 (r : Int)] 34)).heap.size = w.heap.size + 1 := by simp
    rw [e] at this
    exact this
  have a3 : At (eqW w o1 o2 n1 r n2 r) (w.heap.size + 2) 4 #[.bool false] := by
    have := (At.new ((w.alloc (.cells #[.pointer o1, .int .i64 (n1 : Int), .int .i64 (r : Int)] 34)).alloc (.cells #[.pointer o2, .int .i64 (n2 : Int), .int .i64 (r : Int)] 34)) 4 #[.bool false])
    have e : ((w.alloc (.cells #[.pointer o1, .int .i64 (n1 : Int), .int .i64 (r : Int)] 34)).alloc (.cells #[.pointer o2, .int .i64 (n2 : Int), .int .i64 (r : Int)] 34)).heap.size = w.heap.size + 2 := by simp
    rw [e] at this
    exact this
  have HS := Lib.hid (fun W (hb : Below (w.heap.size + 3) (eqW w o1 o2 n1 r n2 r) W) => And.intro ((a1.below hb (by omega)).cell 0) (And.intro ((a1.below hb (by omega)).cell 1) (And.intro ((a1.below hb (by omega)).cell 2) (And.intro ((a2.below hb (by omega)).cell 0) (And.intro ((a2.below hb (by omega)).cell 1) ((a2.below hb (by omega)).cell 2))))))
  have H3 := Lib.hid (fun W (hb : Below (w.heap.size + 3) (eqW w o1 o2 n1 r n2 r) W) => a3.below hb (by omega))
  have BD := Lib.hid ((Below.refl (w.heap.size + 3) (eqW w o1 o2 n1 r n2 r)).drew)
  have HB0 := Lib.hid hb0
  have CA := Lib.hid ca; have CB := Lib.hid cb; have CE := Lib.hid ce
  have n3 : ¬ w.heap.size + 2 = w.heap.size := by omega
  clear a1 a2 a3 hb0 ca cb ce
  go_enter_defers Tryz.func51, Tryz.ntmps51
  go_wp2_with fail
  obtain ⟨w1, hw1⟩ : ∃ w1, eqW w o1 o2 n1 r n2 r = w1 := ⟨_, rfl⟩
  rw [hw1] at HS H3 BD HB0 CA CB CE hs0
  have hw2 : ((w.alloc (.cells #[.pointer o1, .int .i64 (n1 : Int), .int .i64 (r : Int)] 34)).alloc (.cells #[.pointer o2, .int .i64 (n2 : Int), .int .i64 (r : Int)] 34)).alloc (.cells #[.bool false] 4) = w1 := hw1
  rw [hw2]
  clear hw1 hw2
  have zd : w1.drew.heap.size = w1.heap.size := rfl
  go_region_held3 (fun w' => (w'.cell? ⟨w.heap.size, 0, none⟩ = some (.pointer o1) ∧ w'.cell? ⟨w.heap.size, 1, none⟩ = some (.int .i64 (n1 : Int)) ∧ w'.cell? ⟨w.heap.size, 2, none⟩ = some (.int .i64 (r : Int)) ∧ w'.cell? ⟨w.heap.size + 1, 0, none⟩ = some (.pointer o2) ∧ w'.cell? ⟨w.heap.size + 1, 1, none⟩ = some (.int .i64 (n2 : Int)) ∧ w'.cell? ⟨w.heap.size + 1, 2, none⟩ = some (.int .i64 (r : Int))))
    (first | exact HS.out _ BD.out | exact HS.out _ be | exact HS.out _ ba | exact HS.out _ bb | go_keep | fail)
    (first
      | (go_at_call 75; (with_reducible refine (CA.out _ bb).mono ?_); rintro e wa ⟨sa, rfl, oa, da⟩; have ba := bb.trans (da.mono (by have := bb.size; omega)); have ra := oa.rd; have rb := rb.below da; have la := ba)
      | (go_at_call 75; (with_reducible refine (CA.out _ BD.out).mono ?_); rintro e wa ⟨sa, rfl, oa, da⟩; have ba := BD.out.trans (da.mono (by omega)); have ra := oa.rd)
      | (go_at_call 75; (with_reducible refine (CB.out _ ba).mono ?_); rintro e wb ⟨sb, rfl, ob, db⟩; have bb := ba.trans (db.mono (by have := ba.size; omega)); have rb := ob.rd; have ra := ra.below db; have la := bb)
      | (go_at_call 75; (with_reducible refine (CB.out _ BD.out).mono ?_); rintro e wb ⟨sb, rfl, ob, db⟩; have bb := BD.out.trans (db.mono (by omega)); have rb := ob.rd)
      | (go_at_call 74; (with_reducible refine (CE.out _ _ _ la ra rb).mono ?_); rintro e we ⟨rfl, de⟩; have be := la.trans (de.mono (by have := la.size; omega)); have a4 := H3.out _ be; have d0 : we.cell? ⟨w.heap.size + 2, 0, none⟩ = some (.bool false) := (by rw [a4.cell]; rfl); have y0 := a4.frozen 0)
      | fail)
  all_goals go_wp2_with fail
  all_goals
    have hat : At (we.setCell ⟨w.heap.size + 1 + 1, 0, none⟩ (.bool R)) (w.heap.size + 1 + 1) 4 #[.bool R] := by simpa using At.set a4 0 (.bool R)
    have hc : (we.setCell ⟨w.heap.size + 1 + 1, 0, none⟩ (.bool R)).cell? ⟨w.heap.size + 1 + 1, 0, none⟩ = some (.bool R) := by rw [hat.cell]; rfl
    have hbf : Below w.heap.size w (we.setCell ⟨w.heap.size + 1 + 1, 0, none⟩ (.bool R)) := (HB0.out.trans (be.mono (by omega))).setCell (by simp; omega) _
    have HBF := Lib.hid hbf
    clear hbf hat a4 d0 y0
    generalize we.setCell ⟨w.heap.size + 1 + 1, 0, none⟩ (.bool R) = w6 at *
    refine leaves_cons (f := 73) (args := #[ptr (w.heap.size + 1 + 1)]) (by simp) (by simp [go_sem]) ?_
    refine (equal1_idle (w.heap.size + 1 + 1) _).mono ?_
    rintro e u' w8 ⟨rfl, rfl, rfl⟩
    simp only [Leaves, settle, results, Tryz.results51]
    simp [go_sem, hc]
    exact HBF.out
theorem len_its (t : T) : t.its.length = t.kvs.length := (T.kvs_length t).symm
/-- Equal: whether two have the same -/
theorem equal_any {r1 r2 : Nat} (hv : SAt w v l r1) (hu : SAt w u m r2) : Calls Tryz.prog 51 #[v, u] w fun e w' => e = .returned (.bool (decide (r1 = r2 ∧ l = m))) ∧ Below w.heap.size w w' := by
  obtain ⟨vt, t, rfl, ht, rfl, hr, h1, h2⟩ := hv
  obtain ⟨o, rfl⟩ := ht.ptr
  obtain ⟨ut, s, rfl, hs, rfl, hr2, h3, h4⟩ := hu
  obtain ⟨p, rfl⟩ := hs.ptr
  by_cases hroom : r1 = r2
  · subst hroom
    have hb0 : Below w.heap.size w (eqW w o p t.kvs.length r1 s.kvs.length r1) := (((Below.refl _ _).alloc (Nat.le_refl _) _).alloc (by simp) _).alloc (by simp; omega) _
    have step : ∀ W, Below (w.heap.size + 3) (eqW w o p t.kvs.length r1 s.kvs.length r1) W → Below w.heap.size w W := fun W hb => hb0.trans (hb.mono (by omega))
    have e : decide (r1 = r1 ∧ t.kvs = s.kvs) = decide (t.its.map (·.2) = s.its.map (·.2)) := by simp [T.kvs]
    rw [e]
    refine equal_run (ps := t.its.map (·.1)) (qs := s.its.map (·.1)) (fun W hb => pairs_any (ht.step (step W hb)) (by omega)) (fun W hb => pairs_any (hs.step (step W hb)) (by omega)) (fun W a b hb ha hb2 => ?_)
    exact eqf_any ha hb2 (fun y hy => (ht.its_at y hy).2.step (step W hb)) (fun y hy => (hs.its_at y hy).2.step (step W hb)) (by rw [len_its]; omega) (by rw [len_its]; omega)
  · rw [decide_eq_false (fun h => hroom h.1)]
    exact equal_ne hroom
end
end Go.Proofs.YtlmdhkaplemjpaaGreat.Sh
