import Derived.Test.YtplapoenhohliaaGreatSPlain
import Derived.Deep.MidRow
import Derived.Test.YtplapoenhohliaaGreatTrI
import Derived.Test.YtplapoenhohliaaGreatStA
namespace Go.Proofs.YtplapoenhohliaaGreat
open Go.RowKit Go.Lib
set_option linter.unusedVariables false
set_option linter.unusedSimpArgs false
section
variable {ops : Array Oper} {rest : List Oper} {o : Oper} {a : Act} {w : World} {Q : Exit → Act → World → Prop}
theorem wpList_load_part (ty : TypeId) (x : Tmp) (ho : o.op = .load ty (.tmp x)) (hgd : Region.wanted o (yielded ops a.tmps) = true) {p off : Nat} {cs : Array Value} (e : a.eval (.tmp x) = ptr p off) (h : w.rangeAt p off cs.toList) {d : TypeDesc} (hu : Tryz.prog.underlying ty = some d) (hd : d.isRow = true) (hi : (Tryz.prog.info? ty).map (·.size) = some cs.size)
  (k : wpList Tryz.prog ops Q rest (a.put o.dst (.agg cs)) w) : wpList Tryz.prog ops Q (o :: rest) a w := by
 refine wpList_run hgd (.agg cs) ?_ k
 unfold execOp
 simp only [ho, e, Instr.loadAt, Instr.sureAddr, Sem.run_bind, Sem.run_pure, Result.andThen_ok, run_loadVar_mid (P := Tryz.prog) w p off ty cs.toList d h hu hd (by simpa using hi), Array.toArray_toList]
theorem wpList_load_kpart (x : Tmp) (ho : o.op = .load 46 (.tmp x)) (hgd : Region.wanted o (yielded ops a.tmps) = true) {p off : Nat} {c : K} (e : a.eval (.tmp x) = ptr p off) (h : w.rangeAt p off c.cells.toList)
  (k : wpList Tryz.prog ops Q rest (a.put o.dst c.V) w) : wpList Tryz.prog ops Q (o :: rest) a w :=
 wpList_load_part 46 x ho hgd e h Tryz.underlying46 rfl (size26 c) k
theorem wpList_load_cpart (x : Tmp) (ho : o.op = .load 24 (.tmp x)) (hgd : Region.wanted o (yielded ops a.tmps) = true) {p off : Nat} {c : Cfg} (e : a.eval (.tmp x) = ptr p off) (h : w.rangeAt p off c.cells.toList)
  (k : wpList Tryz.prog ops Q rest (a.put o.dst c.V) w) : wpList Tryz.prog ops Q (o :: rest) a w :=
 wpList_load_part 24 x ho hgd e h Tryz.underlying24 rfl (size24 c) k
end
theorem setRow_below {w W : World} {q : Nat} (hb : Below w.heap.size w W) (hq : w.heap.size ≤ q) (cs : Array Value) : Below w.heap.size w (W.setRow q cs) := below_setRow hb hq _
end Go.Proofs.YtplapoenhohliaaGreat
namespace Go.Proofs.YtplapoenhohliaaGreat.Sh
open Go.RowKit Go.Lib Plain
set_option linter.unusedVariables false
def SAt (w : World) (v : Value) (l : List KV) (room : Nat) : Prop :=
 ∃ vt t, v = .agg #[vt, .int .i64 (l.length : Int), .int .i64 (room : Int)] ∧ TAt w w.heap.size vt t ∧ t.kvs = l ∧ Rise l ∧ l.length ≤ room ∧ room ≤ 65536
section
variable {w w' : World} {v : Value} {l : List KV} {room : Nat}
theorem SAt.step (h : SAt w v l room) (hb : Below w.heap.size w w') : SAt w' v l room := by
 obtain ⟨vt, t, rfl, h1, h2⟩ := h
 exact ⟨vt, t, rfl, h1.step hb, h2⟩
theorem SAt.le (h : SAt w v l room) : l.length ≤ room ∧ room ≤ 65536 := by obtain ⟨vt, t, rfl, h1, h2, h3, h4⟩ := h; exact h4
theorem SAt.form (h : SAt w v l room) : ∃ o, v = .agg #[.pointer o, .int .i64 (l.length : Int), .int .i64 (room : Int)] := by
 obtain ⟨vt, t, rfl, h1, _⟩ := h
 obtain ⟨o, rfl⟩ := h1.ptr
 exact ⟨o, rfl⟩
theorem TAt.far {B q i : Nat} {e : TypeId} {cs : Array Value} {u : Value} (ha : At w q e cs) (h1 : e ≠ 137) (h2 : e ≠ 119) : ∀ {t : T} {v : Value}, TAt w B v t → TAt (w.setCell ⟨q, i, none⟩ u) B v t
 | .nil, _, h => h
 | .node l p x r, v, h => by
  obtain ⟨g, vl, vr, rfl, hg, hp, hn, hx, hl, hr⟩ := h
  exact ⟨g, vl, vr, rfl, hg, hp, At.far hn (At.ne hn ha (Ne.symm h1)) _, At.far hx (At.ne hx ha (Ne.symm h2)) _, hl.far ha h1 h2, hr.far ha h1 h2⟩
theorem size_set (w : World) (p : Addr) (u : Value) : (w.setCell p u).heap.size = w.heap.size := by simp [World.setCell]
theorem at3 {g : Nat} {t : TypeId} {a b c : Value} (h : At w g t #[a, b, c]) (u : Value) : At (w.setCell ⟨g, 0, none⟩ u) g t #[u, b, c] ∧ At (w.setCell ⟨g, 1, none⟩ u) g t #[a, u, c] ∧ At (w.setCell ⟨g, 2, none⟩ u) g t #[a, b, u] := by
 have h0 := At.set h 0 u; have h1 := At.set h 1 u; have h2 := At.set h 2 u
 exact ⟨by simpa using h0, by simpa using h1, by simpa using h2⟩
theorem TAt.store3 {B q : Nat} {v : Value} {t : T} {e : TypeId} {a b c x y z : Value} (h : TAt w B v t) (ha : At w q e #[a, b, c]) (h1 : e ≠ 137) (h2 : e ≠ 119) : TAt (((w.setCell ⟨q, 0, none⟩ x).setCell ⟨q, 1, none⟩ y).setCell ⟨q, 2, none⟩ z) B v t :=
 ((h.far ha h1 h2).far (at3 ha x).1 h1 h2).far (at3 (at3 ha x).1 y).2.1 h1 h2
def rm (n : Int) : Nat := if n < 1 ∨ 65536 < n then 0 else n.toNat
def SPost (w : World) (l : List KV) (room : Nat) (e : Ending) (w' : World) : Prop := ∃ v, e = .returned v ∧ SAt w' v l room ∧ Below w.heap.size w w'
theorem sat_nil (w : World) (room : Nat) (h : room ≤ 65536) : SAt w (.agg #[.pointer none, .int .i64 0, .int .i64 (room : Int)]) [] room :=
 ⟨.pointer none, .nil, rfl, rfl, rfl, Rise.nil, Nat.zero_le _, h⟩
set_option maxRecDepth 100000 in
set_option maxHeartbeats 800000 in
theorem new_any (n : Int) (w : World) : Calls Tryz.prog 42 #[.int .i64 n] w (SPost w [] (rm n)) := by
 by_cases h1 : n < 1
 ·have e : rm n = 0 := if_pos (.inl h1)
  rw [e]
  go_enter Tryz.func42, Tryz.ntmps42
  go_wp2
  exact bodyPost_ret (v := .agg #[.pointer none, .int .i64 0, .int .i64 0]) (by simp [results, Tryz.results42, go_sem]) rfl ⟨_, rfl, sat_nil _ 0 (by omega), (Below.refl _ _).alloc (Nat.le_refl _) _⟩
 ·by_cases h2 : 65536 < n
  ·have e : rm n = 0 := if_pos (.inr h2)
   rw [e]
   go_enter Tryz.func42, Tryz.ntmps42
   go_wp2
   exact bodyPost_ret (v := .agg #[.pointer none, .int .i64 0, .int .i64 0]) (by simp [results, Tryz.results42, go_sem]) rfl ⟨_, rfl, sat_nil _ 0 (by omega), (Below.refl _ _).alloc (Nat.le_refl _) _⟩
  ·have e : rm n = n.toNat := if_neg (by omega)
   rw [e]
   have hn : n = (n.toNat : Int) := by omega
   generalize n.toNat = N at *
   subst hn
   have hN : N ≤ 65536 := by omega
   go_enter Tryz.func42, Tryz.ntmps42
   go_wp2
   exact bodyPost_ret (v := .agg #[.pointer none, .int .i64 0, .int .i64 (N : Int)]) (by simp [results, Tryz.results42, go_sem]) rfl ⟨_, rfl, sat_nil _ N hN, (Below.refl _ _).alloc (Nat.le_refl _) _⟩
theorem room_any (h : SAt w v l room) : Calls Tryz.prog 50 #[v] w fun e w' => e = .returned (.int .i64 (room : Int)) ∧ Below w.heap.size w w' := by
 obtain ⟨o, rfl⟩ := h.form
 go_enter Tryz.func50, Tryz.ntmps50
 go_wp2
 go_ret
 exact ⟨rfl, (Below.refl _ _).alloc (Nat.le_refl _) _⟩
theorem len_any (h : SAt w v l room) : Calls Tryz.prog 49 #[v] w fun e w' => e = .returned (.int .i64 (l.length : Int)) ∧ Below w.heap.size w w' := by
 obtain ⟨o, rfl⟩ := h.form
 go_enter Tryz.func49, Tryz.ntmps49
 go_wp2
 go_ret
 exact ⟨rfl, (Below.refl _ _).alloc (Nat.le_refl _) _⟩
set_option maxRecDepth 100000 in
set_option maxHeartbeats 800000 in
theorem get_any (k : Int) (h : SAt w v l room) : Calls Tryz.prog 53 #[v, .int .i64 k] w fun e w' => e = .returned (.tuple #[((get k l).getD zk).V, .bool (get k l).isSome]) ∧ Below w.heap.size w w' := by
 obtain ⟨vt, t, rfl, ht, rfl, hr, _⟩ := h
 obtain ⟨o, rfl⟩ := ht.ptr
 have hb : Below w.heap.size w ((w.alloc (.cells #[.pointer o, .int .i64 (t.kvs.length : Int), .int .i64 (room : Int)] 34)).alloc (.cells Z8 46)) := ((Below.refl _ _).alloc (Nat.le_refl _) _).alloc (by simp) _
 have hz : KAt ((w.alloc (.cells #[.pointer o, .int .i64 (t.kvs.length : Int), .int .i64 (room : Int)] 34)).alloc (.cells Z8 46)) (w.heap.size + 1) zk := by
  have := KAt.new (w.alloc (.cells #[.pointer o, .int .i64 (t.kvs.length : Int), .int .i64 (room : Int)] 34)) zk
  have e : (w.alloc (.cells #[.pointer o, .int .i64 (t.kvs.length : Int), .int .i64 (room : Int)] 34)).heap.size = w.heap.size + 1 := by simp
  rw [e] at this
  exact this
 have CF := Lib.hid (find_any k (ht.step hb) hr)
 generalize get k t.kvs = G at *
 generalize t.kvs.length = N at *
 clear ht hr
 have HB := Lib.hid hb; have HZ := Lib.hid hz; clear hb hz
 go_enter Tryz.func53, Tryz.ntmps53
 go_upto_region 1 with fail
 obtain ⟨W, hW⟩ : ∃ W, (w.alloc (.cells #[.pointer o, .int .i64 (N : Int), .int .i64 (room : Int)] 34)).alloc (.cells Z8 46) = W := ⟨_, rfl⟩
 have kk : W.cell? ⟨w.heap.size, 0, none⟩ = some (.pointer o) := by
  subst hW
  have := (At.new w 34 #[.pointer o, .int .i64 (N : Int), .int .i64 (room : Int)]).alloc (.cells Z8 46)
  rw [this.cell]; rfl
 rw [hW] at HB HZ CF ⊢; clear hW
 have lg : w.heap.size ≤ w.heap.size + 1 := by omega
 generalize hgg : w.heap.size + 1 = gr at *
 clear hgg
 go_wp2_with fail
 refine CF.out.mono ?_
 rintro e w2 ⟨rfl, ⟨rfl, rfl⟩ | ⟨g, p, vl, vr, hh, x, rfl, rfl, hno, hx⟩⟩
 ·have HZ2 := Lib.hid (KAt.new W zk)
  have HZ3 := Lib.hid (HZ.out.step (below_new W (.cells zk.cells 46)))
  have HB3 := Lib.hid (HB.out.alloc (HB.out.size) (.cells zk.cells 46))
  have hzz : Obj.cells Z8 46 = .cells zk.cells 46 := rfl
  clear CF kk
  go_wp2_with (first | ((with_reducible apply wpList_load_kat (h := HZ2.out)); exact rfl; exact rfl; exact rfl) | ((with_reducible apply wpList_store_kat (c := zk) (hq := HZ3.out)); exact rfl; exact rfl; exact rfl; exact rfl))
  exact bodyPost_ret (results_pair Tryz.results53 rfl rfl (KAt.setRow HZ3.out zk)) rfl ⟨rfl, setRow_below HB3.out lg _⟩
 ·have c0 := hno.c0
  have HV := Lib.hid hx.val
  clear CF kk hno hx
  go_wp2_with (first | ((with_reducible apply wpList_load_kpart (c := x) (h := HV.out)); exact rfl; exact rfl; exact rfl) | ((with_reducible apply wpList_store_kat (c := x) (hq := HZ.out)); exact rfl; exact rfl; exact rfl; exact rfl))
  exact bodyPost_ret (results_pair Tryz.results53 rfl rfl (KAt.setRow HZ.out x)) rfl ⟨rfl, setRow_below HB.out lg _⟩
def wok (room : Nat) (k : Int) (l : List KV) : Bool := (get k l).isSome || decide (l.length ≠ room)
def wput (room : Nat) (k : Int) (x : K) (l : List KV) : List KV := if wok room k l = true then put k x l else l
def WithPost (w : World) (l : List KV) (room : Nat) (k : Int) (x : K) (e : Ending) (w' : World) : Prop :=
 ∃ v, e = .returned (.tuple #[v, .bool (wok room k l)]) ∧ SAt w' v (wput room k x l) room ∧ Below w.heap.size w w'
theorem wput_rise {k : Int} {x : K} (hr : Rise l) : Rise (wput room k x l) := by
 unfold wput
 split
 ·exact hr.put
 ·exact hr
set_option maxRecDepth 100000 in
set_option maxHeartbeats 1600000 in
theorem with_no {o : Option Addr} {k : Int} {x : K} {N : Nat} {t : T} (ht : TAt w w.heap.size (.pointer o) t) (hr : Rise t.kvs) (hg : get k t.kvs = none) (hN : N = room) :
  Calls Tryz.prog 85 #[.agg #[.pointer o, .int .i64 (N : Int), .int .i64 (room : Int)], .int .i64 k, x.V] w fun e w' => e = .returned (.tuple #[.agg #[.pointer o, .int .i64 (N : Int), .int .i64 (room : Int)], .bool false]) ∧ Below w.heap.size w w' := by
 subst hN
 have hb : Below w.heap.size w (((w.alloc (.cells #[.pointer o, .int .i64 (N : Int), .int .i64 (N : Int)] 34)).alloc (.cells x.cells 46)).alloc (.cells #[.pointer none, .int .i64 0, .int .i64 0] 34)) := (((Below.refl _ _).alloc (Nat.le_refl _) _).alloc (by simp) _).alloc (by simp; omega) _
 have cf := find_any k (ht.step hb) hr
 rw [hg] at cf
 have CF := Lib.hid cf
 have HB := Lib.hid hb; clear hb ht hr hg cf
 go_enter Tryz.func85, Tryz.ntmps85
 go_wp2_with fail
 refine CF.out.mono ?_
 rintro e w2 ⟨rfl, ⟨_, rfl⟩ | ⟨g, p, vl, vr, hh, x, h0, _⟩⟩
 ·go_wp2_with fail
  exact bodyPost_ret (v := .tuple #[.agg #[.pointer o, .int .i64 (N : Int), .int .i64 (N : Int)], .bool false]) (by simp [results, Tryz.results85, go_sem]) rfl ⟨rfl, (((Below.refl _ _).alloc (Nat.le_refl _) _).alloc (by simp) _).alloc (by simp; omega) _⟩
 ·cases h0
abbrev putW (w : World) (o : Option Addr) (NN room : Nat) (k : Int) (x : K) : World :=
 (((w.alloc (.cells #[.pointer o, .int .i64 (NN : Int), .int .i64 (room : Int)] 34)).alloc (.cells x.cells 46)).alloc (.cells #[.pointer none, .int .i64 0, .int .i64 0] 34)).alloc (.cells (pc (k, x)) 119)
set_option maxRecDepth 100000 in
set_option maxHeartbeats 1600000 in
theorem with_old {o : Option Addr} {k : Int} {x y : K} {N : Nat} {t : T} {L : List KV} (ht : TAt w w.heap.size (.pointer o) t) (hr : Rise t.kvs) (hg : get k t.kvs = some y)
  (cw : Calls Tryz.prog 100 #[.pointer o, ptr (w.heap.size + 3)] (putW w o N room k x) (LPost (putW w o N room k x) L)) :
  Calls Tryz.prog 85 #[.agg #[.pointer o, .int .i64 (N : Int), .int .i64 (room : Int)], .int .i64 k, x.V] w fun e w' => ∃ g t', e = .returned (.tuple #[.agg #[ptr g, .int .i64 (N : Int), .int .i64 (room : Int)], .bool true]) ∧ TAt w' w'.heap.size (ptr g) t' ∧ t'.kvs = L ∧ Below w.heap.size w w' := by
 have hb : Below w.heap.size w (((w.alloc (.cells #[.pointer o, .int .i64 (N : Int), .int .i64 (room : Int)] 34)).alloc (.cells x.cells 46)).alloc (.cells #[.pointer none, .int .i64 0, .int .i64 0] 34)) := (((Below.refl _ _).alloc (Nat.le_refl _) _).alloc (by simp) _).alloc (by simp; omega) _
 have cf := find_any k (ht.step hb) hr
 rw [hg] at cf
 have CF := Lib.hid cf; have CW := Lib.hid cw
 have HB := Lib.hid hb; clear hb ht hr hg cf cw
 have HK : Hid (KAt (((w.alloc (.cells #[.pointer o, .int .i64 (N : Int), .int .i64 (room : Int)] 34)).alloc (.cells x.cells 46)).alloc (.cells #[.pointer none, .int .i64 0, .int .i64 0] 34)) (w.heap.size + 1) x) := Lib.hid (by
  have := KAt.new (w.alloc (.cells #[.pointer o, .int .i64 (N : Int), .int .i64 (room : Int)] 34)) x
  have e : (w.alloc (.cells #[.pointer o, .int .i64 (N : Int), .int .i64 (room : Int)] 34)).heap.size = w.heap.size + 1 := by simp
  rw [e] at this
  exact At.alloc this _)
 go_enter Tryz.func85, Tryz.ntmps85
 go_wp2_with fail
 refine CF.out.mono ?_
 rintro e w2 ⟨rfl, ⟨h0, _⟩ | ⟨g, p, vl, vr, hh, y', _, rfl, _, _⟩⟩
 ·cases h0
 ·clear CF
  go_wp2_with (first | ((with_reducible apply wpList_load_kat (h := HK.out)); exact rfl; exact rfl; exact rfl) | (refine wpList_build_as rfl 119 _ rfl (pc (k, x)) (by kernel_rfl) ?_))
  refine CW.out.mono ?_
  rintro e w5 ⟨g5, t5, rfl, T5, k5, b5⟩
  have hs : w5.heap.size ≥ w.heap.size + 4 := by have := b5.size; simpa using this
  have a1 : At w5 w.heap.size 34 #[.pointer o, .int .i64 (N : Int), .int .i64 (room : Int)] := At.below ((((At.new w 34 _).alloc _).alloc _).alloc _) b5 (by simp; omega)
  have a2 : At w5 (w.heap.size + 2) 34 #[.pointer none, .int .i64 0, .int .i64 0] := by
   have := (At.new ((w.alloc (.cells #[.pointer o, .int .i64 (N : Int), .int .i64 (room : Int)] 34)).alloc (.cells x.cells 46)) 34 #[.pointer none, .int .i64 0, .int .i64 0]).alloc (.cells (pc (k, x)) 119)
   have e : ((w.alloc (.cells #[.pointer o, .int .i64 (N : Int), .int .i64 (room : Int)] 34)).alloc (.cells x.cells 46)).heap.size = w.heap.size + 2 := by simp
   rw [e] at this
   exact this.below b5 (by simp)
  have c0 : w5.cell? ⟨w.heap.size, 0, none⟩ = some (.pointer o) := by rw [a1.cell]; rfl
  have c1 : w5.cell? ⟨w.heap.size, 1, none⟩ = some (.int .i64 (N : Int)) := by rw [a1.cell]; rfl
  have c2 : w5.cell? ⟨w.heap.size, 2, none⟩ = some (.int .i64 (room : Int)) := by rw [a1.cell]; rfl
  have z0 := a1.frozen 0
  have d0 : w5.cell? ⟨w.heap.size + 2, 0, none⟩ = some (.pointer none) := by rw [a2.cell]; rfl
  have d1 : w5.cell? ⟨w.heap.size + 2, 1, none⟩ = some (.int .i64 0) := by rw [a2.cell]; rfl
  have d2 : w5.cell? ⟨w.heap.size + 2, 2, none⟩ = some (.int .i64 0) := by rw [a2.cell]; rfl
  have y0 := a2.frozen 0; have y1 := a2.frozen 1; have y2 := a2.frozen 2
  have hb5 : Below w.heap.size w w5 := (HB.out.alloc (by simp; omega) _).trans (b5.mono (by simp; omega))
  have ne : w.heap.size + 2 ≠ w.heap.size := by omega
  have a1' : At (w5.setCell ⟨w.heap.size, 0, none⟩ (ptr g5)) (w.heap.size + 2) 34 #[.pointer none, .int .i64 0, .int .i64 0] := a2.far ne _
  have hfin : TAt ((((w5.setCell ⟨w.heap.size, 0, none⟩ (ptr g5)).setCell ⟨w.heap.size + 2, 0, none⟩ (ptr g5)).setCell ⟨w.heap.size + 2, 1, none⟩ (.int .i64 (N : Int))).setCell ⟨w.heap.size + 2, 2, none⟩ (.int .i64 (room : Int))) w5.heap.size (ptr g5) t5 :=
   (T5.far a1 (by decide) (by decide)).store3 a1' (by decide) (by decide)
  have hbf : Below w.heap.size w ((((w5.setCell ⟨w.heap.size, 0, none⟩ (ptr g5)).setCell ⟨w.heap.size + 2, 0, none⟩ (ptr g5)).setCell ⟨w.heap.size + 2, 1, none⟩ (.int .i64 (N : Int))).setCell ⟨w.heap.size + 2, 2, none⟩ (.int .i64 (room : Int))) :=
   ((((hb5.setCell (Nat.le_refl _) _).setCell (by simp) _).setCell (by simp) _).setCell (by simp) _)
  have T5' := Lib.hid hfin; have B5 := Lib.hid hbf; clear T5 b5 a1 a2 CW HB HK hfin hbf hb5 a1'
  go_wp2_with fail
  exact bodyPost_ret (v := .tuple #[.agg #[ptr g5, .int .i64 (N : Int), .int .i64 (room : Int)], .bool true]) (by simp [results, Tryz.results85, go_sem, *]) rfl ⟨g5, t5, rfl, by simp only [size_set]; exact T5'.out, k5, B5.out⟩
set_option maxRecDepth 100000 in
set_option maxHeartbeats 1600000 in
theorem with_new {o : Option Addr} {k : Int} {x : K} {N M : Nat} {t : T} {L : List KV} (ht : TAt w w.heap.size (.pointer o) t) (hr : Rise t.kvs) (hg : get k t.kvs = none) (hN : N ≠ room) (hM : M = N + 1) (hM2 : M ≤ 1000000)
  (cw : Calls Tryz.prog 100 #[.pointer o, ptr (w.heap.size + 3)] (putW w o M room k x) (LPost (putW w o M room k x) L)) :
  Calls Tryz.prog 85 #[.agg #[.pointer o, .int .i64 (N : Int), .int .i64 (room : Int)], .int .i64 k, x.V] w fun e w' => ∃ g t', e = .returned (.tuple #[.agg #[ptr g, .int .i64 (M : Int), .int .i64 (room : Int)], .bool true]) ∧ TAt w' w'.heap.size (ptr g) t' ∧ t'.kvs = L ∧ Below w.heap.size w w' := by
 have hb : Below w.heap.size w (((w.alloc (.cells #[.pointer o, .int .i64 (N : Int), .int .i64 (room : Int)] 34)).alloc (.cells x.cells 46)).alloc (.cells #[.pointer none, .int .i64 0, .int .i64 0] 34)) := (((Below.refl _ _).alloc (Nat.le_refl _) _).alloc (by simp) _).alloc (by simp; omega) _
 have hbm : Below w.heap.size w (((w.alloc (.cells #[.pointer o, .int .i64 (M : Int), .int .i64 (room : Int)] 34)).alloc (.cells x.cells 46)).alloc (.cells #[.pointer none, .int .i64 0, .int .i64 0] 34)) := (((Below.refl _ _).alloc (Nat.le_refl _) _).alloc (by simp) _).alloc (by simp; omega) _
 have cf := find_any k (ht.step hb) hr
 rw [hg] at cf
 have CF := Lib.hid cf; have CW := Lib.hid cw
 have HB := Lib.hid hbm; clear hb hbm ht hr hg cf cw
 have f1 : ((N : Int) == (room : Int)) = false := beq_eq_false_iff_ne.2 (by omega)
 have f2 : IntKind.i64.wrap ((N : Int) + 1) = (M : Int) := by rw [IntWalk.i64_in _ (by omega)]; omega
 clear hN hM hM2
 have HK : Hid (KAt (((w.alloc (.cells #[.pointer o, .int .i64 (M : Int), .int .i64 (room : Int)] 34)).alloc (.cells x.cells 46)).alloc (.cells #[.pointer none, .int .i64 0, .int .i64 0] 34)) (w.heap.size + 1) x) := Lib.hid (by
  have := KAt.new (w.alloc (.cells #[.pointer o, .int .i64 (M : Int), .int .i64 (room : Int)] 34)) x
  have e : (w.alloc (.cells #[.pointer o, .int .i64 (M : Int), .int .i64 (room : Int)] 34)).heap.size = w.heap.size + 1 := by simp
  rw [e] at this
  exact At.alloc this _)
 go_enter Tryz.func85, Tryz.ntmps85
 go_wp2_with fail
 refine CF.out.mono ?_
 rintro e w2 ⟨rfl, ⟨_, rfl⟩ | ⟨g, p, vl, vr, hh, y', h0, _⟩⟩
 ·clear CF
  go_wp2_with (first | ((with_reducible apply wpList_load_kat (h := HK.out)); exact rfl; exact rfl; exact rfl) | (refine wpList_build_as rfl 119 _ rfl (pc (k, x)) (by kernel_rfl) ?_))
  refine CW.out.mono ?_
  rintro e w5 ⟨g5, t5, rfl, T5, k5, b5⟩
  have hs : w5.heap.size ≥ w.heap.size + 4 := by have := b5.size; simpa using this
  have a1 : At w5 w.heap.size 34 #[.pointer o, .int .i64 (M : Int), .int .i64 (room : Int)] := At.below ((((At.new w 34 _).alloc _).alloc _).alloc _) b5 (by simp; omega)
  have a2 : At w5 (w.heap.size + 2) 34 #[.pointer none, .int .i64 0, .int .i64 0] := by
   have := (At.new ((w.alloc (.cells #[.pointer o, .int .i64 (M : Int), .int .i64 (room : Int)] 34)).alloc (.cells x.cells 46)) 34 #[.pointer none, .int .i64 0, .int .i64 0]).alloc (.cells (pc (k, x)) 119)
   have e : ((w.alloc (.cells #[.pointer o, .int .i64 (M : Int), .int .i64 (room : Int)] 34)).alloc (.cells x.cells 46)).heap.size = w.heap.size + 2 := by simp
   rw [e] at this
   exact this.below b5 (by simp)
  have c0 : w5.cell? ⟨w.heap.size, 0, none⟩ = some (.pointer o) := by rw [a1.cell]; rfl
  have c1 : w5.cell? ⟨w.heap.size, 1, none⟩ = some (.int .i64 (M : Int)) := by rw [a1.cell]; rfl
  have c2 : w5.cell? ⟨w.heap.size, 2, none⟩ = some (.int .i64 (room : Int)) := by rw [a1.cell]; rfl
  have z0 := a1.frozen 0
  have d0 : w5.cell? ⟨w.heap.size + 2, 0, none⟩ = some (.pointer none) := by rw [a2.cell]; rfl
  have d1 : w5.cell? ⟨w.heap.size + 2, 1, none⟩ = some (.int .i64 0) := by rw [a2.cell]; rfl
  have d2 : w5.cell? ⟨w.heap.size + 2, 2, none⟩ = some (.int .i64 0) := by rw [a2.cell]; rfl
  have y0 := a2.frozen 0; have y1 := a2.frozen 1; have y2 := a2.frozen 2
  have hb5 : Below w.heap.size w w5 := (HB.out.alloc (by simp; omega) _).trans (b5.mono (by simp; omega))
  have ne : w.heap.size + 2 ≠ w.heap.size := by omega
  have a1' : At (w5.setCell ⟨w.heap.size, 0, none⟩ (ptr g5)) (w.heap.size + 2) 34 #[.pointer none, .int .i64 0, .int .i64 0] := a2.far ne _
  have hfin : TAt ((((w5.setCell ⟨w.heap.size, 0, none⟩ (ptr g5)).setCell ⟨w.heap.size + 2, 0, none⟩ (ptr g5)).setCell ⟨w.heap.size + 2, 1, none⟩ (.int .i64 (M : Int))).setCell ⟨w.heap.size + 2, 2, none⟩ (.int .i64 (room : Int))) w5.heap.size (ptr g5) t5 :=
   (T5.far a1 (by decide) (by decide)).store3 a1' (by decide) (by decide)
  have hbf : Below w.heap.size w ((((w5.setCell ⟨w.heap.size, 0, none⟩ (ptr g5)).setCell ⟨w.heap.size + 2, 0, none⟩ (ptr g5)).setCell ⟨w.heap.size + 2, 1, none⟩ (.int .i64 (M : Int))).setCell ⟨w.heap.size + 2, 2, none⟩ (.int .i64 (room : Int))) :=
   ((((hb5.setCell (Nat.le_refl _) _).setCell (by simp) _).setCell (by simp) _).setCell (by simp) _)
  have T5' := Lib.hid hfin; have B5 := Lib.hid hbf; clear T5 b5 a1 a2 CW HB HK hfin hbf hb5 a1'
  go_wp2_with fail
  exact bodyPost_ret (v := .tuple #[.agg #[ptr g5, .int .i64 (M : Int), .int .i64 (room : Int)], .bool true]) (by simp [results, Tryz.results85, go_sem, *]) rfl ⟨g5, t5, rfl, by simp only [size_set]; exact T5'.out, k5, B5.out⟩
 ·cases h0
theorem With_any (k : Int) (x : K) (h : SAt w v l room) : Calls Tryz.prog 85 #[v, .int .i64 k, x.V] w (WithPost w l room k x) := by
 obtain ⟨vt, t, rfl, ht, rfl, hr, h1, h2⟩ := h
 obtain ⟨o, rfl⟩ := ht.ptr
 have hput : ∀ NN, Calls Tryz.prog 100 #[.pointer o, ptr (w.heap.size + 3)] (putW w o NN room k x) (LPost (putW w o NN room k x) (put k x t.kvs)) := by
  intro NN
  have hb : Below w.heap.size w (putW w o NN room k x) := ((((Below.refl _ _).alloc (Nat.le_refl _) _).alloc (by simp) _).alloc (by simp; omega) _).alloc (by simp; omega) _
  have hp : PAt (putW w o NN room k x) (w.heap.size + 3) (k, x) := by
   have := At.new (((w.alloc (.cells #[.pointer o, .int .i64 (NN : Int), .int .i64 (room : Int)] 34)).alloc (.cells x.cells 46)).alloc (.cells #[.pointer none, .int .i64 0, .int .i64 0] 34)) 119 (pc (k, x))
   have e : (((w.alloc (.cells #[.pointer o, .int .i64 (NN : Int), .int .i64 (room : Int)] 34)).alloc (.cells x.cells 46)).alloc (.cells #[.pointer none, .int .i64 0, .int .i64 0] 34)).heap.size = w.heap.size + 3 := by simp
   rw [e] at this
   exact this
  exact with_any (ht.step hb) hp hr (by omega)
 cases hg : get k t.kvs with
 | none =>
  by_cases hN : t.kvs.length = room
  ·have ew : wok room k t.kvs = false := by unfold wok; rw [hg]; simp [hN]
   have ep : wput room k x t.kvs = t.kvs := by unfold wput; rw [ew]; rfl
   refine (with_no ht hr hg hN).mono ?_
   rintro e w' ⟨rfl, hb⟩
   refine ⟨_, by rw [ew], ?_, hb⟩
   rw [ep]
   exact ⟨_, t, rfl, ht.step hb, rfl, hr, h1, h2⟩
  ·have ew : wok room k t.kvs = true := by unfold wok; simp [hN]
   have ep : wput room k x t.kvs = put k x t.kvs := by unfold wput; rw [ew]; rfl
   have el : (put k x t.kvs).length = t.kvs.length + 1 := by rw [put_length hr, hg]; rfl
   refine (with_new ht hr hg hN rfl (by omega) (hput _)).mono ?_
   rintro e w' ⟨g, t', rfl, ht', hk, hb⟩
   refine ⟨_, by rw [ew], ?_, hb⟩
   rw [ep]
   exact ⟨_, t', by rw [el], ht', hk, hr.put, by omega, h2⟩
 | some y =>
  have ew : wok room k t.kvs = true := by unfold wok; rw [hg]; rfl
  have ep : wput room k x t.kvs = put k x t.kvs := by unfold wput; rw [ew]; rfl
  have el : (put k x t.kvs).length = t.kvs.length := by rw [put_length hr, hg]; rfl
  refine (with_old ht hr hg (hput _)).mono ?_
  rintro e w' ⟨g, t', rfl, ht', hk, hb⟩
  refine ⟨_, by rw [ew], ?_, hb⟩
  rw [ep]
  exact ⟨_, t', by rw [el], ht', hk, hr.put, by omega, h2⟩
end
end Go.Proofs.YtplapoenhohliaaGreat.Sh
