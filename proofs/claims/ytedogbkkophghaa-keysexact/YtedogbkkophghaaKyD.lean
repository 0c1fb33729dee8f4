/- Keys: what counts, how many; who can ask. -/
import Derived.Test.YtedogbkkophghaaKyC
namespace Go.Proofs.Ytedogbkkophghaa
open Go.RowKit Go.Lib
open Sh.Plain (KV get put Rise)
set_option linter.unusedVariables false
set_option linter.unusedSimpArgs false

theorem range3 {w : World} {g off : Nat} {u v z : Value} (h0 : w.cell? ⟨g, off, none⟩ = some u) (h1 : w.cell? ⟨g, off + 1, none⟩ = some v) (h2 : w.cell? ⟨g, off + 2, none⟩ = some z) : w.rangeAt g off [u, v, z] := fun j y hy => by
  match j, hy with
  | 0, hy => simp at hy; subst hy; exact h0
  | 1, hy => simp at hy; subst hy; exact h1
  | 2, hy => simp at hy; subst hy; exact h2
  | n + 3, hy => simp at hy
theorem size29 (o : Option Addr) (n r : Nat) : (Try.prog.info? 29).map (·.size) = some [Value.pointer o, .int .i64 (n : Int), .int .i64 (r : Int)].length := by kernel_rfl
theorem size29s (o : Option Addr) (n r : Nat) : (Try.prog.info? 29).map (·.size) = some (#[Value.pointer o, .int .i64 (n : Int), .int .i64 (r : Int)] : Array Value).size := by kernel_rfl
theorem KyAt.lv {w : World} {g : Nat} {b : Ky} {o : Option Addr} (h : KyAt w g b o) : w.rangeAt g 18 [.pointer o, .int .i64 (b.l.length : Int), .int .i64 (b.rm : Int)] := range3 h.k18 h.k19 h.k20
theorem run_load_sv {ρ : Operand → Value} {w : World} {x : Tmp} {g off : Nat} {o : Option Addr} {n r : Nat} {d : Option Tmp} {t : TypeId} {pos : String} {af : Array Edge} {gd : Option (Nat × Bool)} (e : ρ (.tmp x) = ptr g off) (h : w.rangeAt g off [.pointer o, .int .i64 (n : Int), .int .i64 (r : Int)]) :
    (execOp ρ { dst := d, op := Op.load 29 (.tmp x), type := t, pos := pos, after := af, guard := gd }).run Try.prog w = .ok (.value (sv o n r)) w := by
  unfold execOp
  simp only [e, Instr.loadAt, Instr.sureAddr, Sem.run_bind, Sem.run_pure, Result.andThen_ok, run_loadVar_mid (P := Try.prog) w g off 29 _ _ h Try.underlying29 rfl (size29 o n r)]
def SvAt (w : World) (g : Nat) (o : Option Addr) (n r : Nat) : Prop := At w g 29 #[.pointer o, .int .i64 (n : Int), .int .i64 (r : Int)]
section
variable {ops : Array Oper} {rest : List Oper} {o : Oper} {a : Act} {w : World} {Q : Exit → Act → World → Prop}
theorem wpList_load_sv (x : Tmp) (ho : o.op = .load 29 (.tmp x)) (hgd : Region.wanted o (yielded ops a.tmps) = true) {g off n r : Nat} {s : Option Addr} (e : a.eval (.tmp x) = ptr g off) (h : w.rangeAt g off [.pointer s, .int .i64 (n : Int), .int .i64 (r : Int)])
    (k : wpList Try.prog ops Q rest (a.put o.dst (sv s n r)) w) : wpList Try.prog ops Q (o :: rest) a w := by
  obtain ⟨d, op, t, pos, af, gd⟩ := o
  subst ho
  exact wpList_run hgd _ (run_load_sv e h) k
theorem wpList_store_sv (x y : Tmp) (ho : o.op = .store 29 (.tmp x) (.tmp y)) (hgd : o.guard = none) {q n r n' r' : Nat} {s s' : Option Addr} (e1 : a.eval (.tmp x) = ptr q 0) (e2 : a.eval (.tmp y) = sv s n r) (hq : SvAt w q s' n' r')
    (k : wpList Try.prog ops Q rest (a.put o.dst undef) (w.setRow q #[.pointer s, .int .i64 (n : Int), .int .i64 (r : Int)])) : wpList Try.prog ops Q (o :: rest) a w :=
  wpList_store_row hgd 29 (.tmp x) (.tmp y) ho q _ e1 e2 29 _ hq (size29s s n r) rfl (by simp [Value.oneCell']) k
end
theorem results_sv {fn : Func} {p : Tmp} (h : fn.results = #[.cell p 29]) {tmps : Array Value} {w : World} {g n r : Nat} {o : Option Addr} (hp : tmps.getD p undef = ptr g 0) (hg : SvAt w g o n r) :
    (results fn tmps).run Try.prog w = .ok (sv o n r) w := by
  rw [Array.getD_eq_getD_getElem?] at hp
  have l1 : (loadVar 29 ⟨g, 0, none⟩).run Try.prog w = .ok (sv o n r) w := run_loadVar_row w g 29 29 _ (0, 0) _ hg Try.underlying29 rfl (size29s o n r)
  simp [results, h, hp, asAddr, l1]
/-- new blocks, one behind the other -/
theorem new1 (w : World) (c1 : Array Value) (t1 : TypeId) : Below w.heap.size w (w.alloc (.cells c1 t1)) ∧ At (w.alloc (.cells c1 t1)) w.heap.size t1 c1 := ⟨below_new _ _, At.new _ _ _⟩
theorem new2 (w : World) (c1 c2 : Array Value) (t1 t2 : TypeId) : Below w.heap.size w ((w.alloc (.cells c1 t1)).alloc (.cells c2 t2)) ∧ At ((w.alloc (.cells c1 t1)).alloc (.cells c2 t2)) w.heap.size t1 c1 ∧ At ((w.alloc (.cells c1 t1)).alloc (.cells c2 t2)) (w.heap.size + 1) t2 c2 := by
  have e : (w.alloc (.cells c1 t1)).heap.size = w.heap.size + 1 := by simp
  obtain ⟨b2, h2⟩ := new1 (w.alloc (.cells c1 t1)) c2 t2
  obtain ⟨b1, h1⟩ := new1 w c1 t1
  have := h1.step b2
  rw [e] at h2 b2
  exact ⟨b1.trans (b2.mono (by omega)), this, h2⟩
theorem new3 (w : World) (c1 c2 c3 : Array Value) (t1 t2 t3 : TypeId) : Below w.heap.size w (((w.alloc (.cells c1 t1)).alloc (.cells c2 t2)).alloc (.cells c3 t3)) ∧ At (((w.alloc (.cells c1 t1)).alloc (.cells c2 t2)).alloc (.cells c3 t3)) w.heap.size t1 c1 ∧ At (((w.alloc (.cells c1 t1)).alloc (.cells c2 t2)).alloc (.cells c3 t3)) (w.heap.size + 1) t2 c2 ∧ At (((w.alloc (.cells c1 t1)).alloc (.cells c2 t2)).alloc (.cells c3 t3)) (w.heap.size + 1 + 1) t3 c3 := by
  have e : ((w.alloc (.cells c1 t1)).alloc (.cells c2 t2)).heap.size = w.heap.size + 1 + 1 := by simp
  obtain ⟨b2, h2⟩ := new1 ((w.alloc (.cells c1 t1)).alloc (.cells c2 t2)) c3 t3
  obtain ⟨b1, h1, k1⟩ := new2 w c1 c2 t1 t2
  have i1 := h1.step b2; have j1 := k1.step b2
  rw [e] at h2 b2
  exact ⟨b1.trans (b2.mono (by omega)), i1, j1, h2⟩

/-- those that count, at a tick -/
def cnt (now : Int) (l : List KV) : List KV := l.filter (fun x => Sh.alive now x.2)
theorem cnt_rise {now : Int} {l : List KV} (h : Rise l) : Rise (cnt now l) := h.filter _
theorem cnt_le (now : Int) (l : List KV) : (cnt now l).length ≤ l.length := List.length_filter_le ..
set_option maxRecDepth 100000 in
set_option maxHeartbeats 1000000 in
theorem counting_any {b : Ky} {o : Option Addr} {w : World} (now : Int) (hb : YAt w b o) : Calls Try.prog 30 #[b.V o, .int .i64 now] w (Sh.SPost w (cnt now b.l) b.rm) := by
  have H := Lib.hid (new3 w (b.cells o) #[.int .i64 now] #[.pointer none, .int .i64 ((0 : Nat) : Int), .int .i64 ((0 : Nat) : Int)] 31 3 29)
  have HS := Lib.hid (hb.step H.out.1); clear hb
  have hmf : ∀ (fn : Fn) (first cap : Array Value) (w : World), (Instr.makeFunc fn first cap).run Try.prog w = .ok (.func fn first cap) w := fun _ _ _ _ => rfl
  go_enter Try.func30, Try.ntmps30
  go_upto_region 1 with fail
  obtain ⟨W, hW⟩ : ∃ W, ((w.alloc (.cells (b.cells o) 31)).alloc (.cells #[.int .i64 now] 3)).alloc (.cells #[.pointer none, .int .i64 0, .int .i64 0] 29) = W := ⟨_, rfl⟩
  have hZ : ((w.alloc (.cells (b.cells o) 31)).alloc (.cells #[.int .i64 now] 3)).alloc (.cells #[.pointer none, .int .i64 ((0 : Nat) : Int), .int .i64 ((0 : Nat) : Int)] 29) = W := hW
  rw [hZ] at H HS; rw [hW]; clear hW hZ
  have HK := Lib.hid (KyAt.lv H.out.2.1)
  have CK : Hid (Calls Try.prog 39 #[sv o b.l.length b.rm, Sh.fkeep (w.heap.size + 1)] W (Sh.SPost W (cnt now b.l) b.rm)) := Lib.hid (Sh.keep_alive H.out.2.2.1 HS.out)
  have HQ : Hid (SvAt W (w.heap.size + 1 + 1) none 0 0) := Lib.hid H.out.2.2.2
  have HB := Lib.hid H.out.1; clear H HS
  have lo : w.heap.size ≤ w.heap.size + 1 + 1 := by omega
  unfold Sh.fkeep at CK
  generalize w.heap.size + 1 + 1 = q at *
  generalize w.heap.size + 1 = p at *
  go_wp2_with (first | ((with_reducible apply wpList_load_sv (h := HK.out)); exact rfl; exact rfl; exact rfl) | (go_at_call 39; (with_reducible refine CK.out.mono ?_); rintro e w1 ⟨v1, rfl, hs1, hb1⟩; obtain ⟨o1, rfl⟩ := hs1.form; have HQ1 : Hid (SvAt w1 q none 0 0) := Lib.hid (At.step HQ.out hb1); have S1 := Lib.hid hs1; have HB1 := Lib.hid (HB.out.trans (hb1.mono HB.out.size)); clear hs1 hb1) | ((with_reducible apply wpList_store_sv (s := o1) (n := (cnt now b.l).length) (r := b.rm) (hq := HQ1.out)); exact rfl; exact rfl; exact rfl; exact rfl))
  refine bodyPost_ret (results_sv (o := o1) (n := (cnt now b.l).length) (r := b.rm) Try.results30 rfl (At.setRow HQ1.out _)) rfl ⟨_, rfl, SAt.farRow HQ1.out (by decide) (by decide) S1.out, below_setRow HB1.out lo _⟩
set_option maxRecDepth 100000 in
set_option maxHeartbeats 1000000 in
theorem count_any {b : Ky} {o : Option Addr} {w : World} (now : Int) (hb : YAt w b o) : Calls Try.prog 19 #[b.V o, .int .i64 now] w fun e w' => e = .returned (.int .i64 ((cnt now b.l).length : Int)) ∧ Below w.heap.size w w' := by
  have H := Lib.hid (new1 w (b.cells o) 31)
  have CK := Lib.hid (counting_any now (hb.step H.out.1)); clear hb
  go_enter Try.func19, Try.ntmps19
  go_upto_region 1 with fail
  obtain ⟨W, hW⟩ : ∃ W, w.alloc (.cells (b.cells o) 31) = W := ⟨_, rfl⟩
  rw [hW] at H CK ⊢; clear hW
  have HK := Lib.hid H.out.2
  go_wp2_with ((with_reducible apply wpList_load_ky (h := HK.out)); exact rfl; exact rfl; exact rfl)
  refine CK.out.mono ?_
  rintro e w1 ⟨v1, rfl, hs1, hb1⟩
  have CL := Lib.hid (Sh.len_any hs1)
  have HB1 := Lib.hid (H.out.1.trans (hb1.mono H.out.1.size)); clear hs1 hb1 H HK
  go_wp2_with fail
  refine CL.out.mono ?_
  rintro e w2 ⟨rfl, hb2⟩
  go_wp2_with fail
  go_ret
  exact ⟨rfl, HB1.out.trans (hb2.mono HB1.out.size)⟩
/-- whether somebody can ask anything with a key, at a tick -/
def canK (c : Cfg) (now who k : Int) : Bool := decide (1 ≤ who) && decide (who ≤ 1073741824) && decide (now ≤ 1073741824) && goodK c k now
set_option maxRecDepth 100000 in
set_option maxHeartbeats 1600000 in
theorem can_any {b : Ky} {o : Option Addr} {w : World} (now who k : Int) (hk : isU k) : Calls Try.prog 27 #[b.V o, .int .i64 now, .int .i64 who, .int .u64 k] w fun e w' => e = .returned (.bool (canK b.c now who k)) ∧ Below w.heap.size w w' := by
  have H := Lib.hid (new1 w (b.cells o) 31)
  have CG := Lib.hid (fun W => isGood_any b.c k now hk W); clear hk
  obtain ⟨t1, t2, t3, t4, h1, h2, h3, h4⟩ : ∃ t1 t2 t3 t4 : Bool, decide (1 ≤ who) = t1 ∧ decide (who ≤ 1073741824) = t2 ∧ decide (now ≤ 1073741824) = t3 ∧ goodK b.c k now = t4 := ⟨_, _, _, _, rfl, rfl, rfl, rfl⟩
  have HC := Lib.hid (show canK b.c now who k = (t1 && t2 && t3 && t4) by unfold canK; rw [h1, h2, h3, h4])
  rw [HC.out]; clear HC
  generalize goodK b.c k now = t at *
  subst h4
  go_enter Try.func27, Try.ntmps27
  go_upto_region 1 with fail
  obtain ⟨W, hW⟩ : ∃ W, w.alloc (.cells (b.cells o) 31) = W := ⟨_, rfl⟩
  rw [hW] at H ⊢; clear hW
  have HK := Lib.hid (KyAt.kc H.out.2)
  have HB := Lib.hid H.out.1; clear H
  cases t1
  · clear h2 h3
    go_wp2_with fail
    go_ret
    exact ⟨rfl, HB.out⟩
  · cases t2
    · clear h3
      go_wp2_with fail
      go_ret
      exact ⟨rfl, HB.out⟩
    · cases t3
      · go_wp2_with fail
        go_ret
        exact ⟨rfl, HB.out⟩
      · go_wp2_with (first | ((with_reducible apply wpList_load_cpart (c := b.c) (h := HK.out)); exact rfl; exact rfl; exact rfl) | (go_at_call 10; (with_reducible refine (CG.out _).mono ?_); rintro e w1 ⟨rfl, hb1⟩))
        go_ret
        exact ⟨by simp, HB.out.trans (hb1.mono HB.out.size)⟩
end Go.Proofs.Ytedogbkkophghaa
