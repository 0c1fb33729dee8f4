import Derived.Test.YtplapoenhohliaaGreatBkC
import Derived.Test.YtplapoenhohliaaGreatIsb
import Derived.Great.BuildSlice
namespace Go.Proofs.YtplapoenhohliaaGreat
open Go.RowKit Go.Lib
open Sh.Plain (KV get put del Rise)
set_option linter.unusedVariables false
set_option linter.unusedSimpArgs false
theorem range3 {w : World} {g off : Nat} {u v z : Value} (h0 : w.cell? ⟨g, off, none⟩ = some u) (h1 : w.cell? ⟨g, off + 1, none⟩ = some v) (h2 : w.cell? ⟨g, off + 2, none⟩ = some z) : w.rangeAt g off [u, v, z] := fun j y hy => by
 match j, hy with
 | 0, hy => simp at hy; subst hy; exact h0
 | 1, hy => simp at hy; subst hy; exact h1
 | 2, hy => simp at hy; subst hy; exact h2
 | n + 3, hy => simp at hy
theorem size29 (o : Option Addr) (n r : Nat) : (Tryz.prog.info? 34).map (·.size) = some [Value.pointer o, .int .i64 (n : Int), .int .i64 (r : Int)].length := by kernel_rfl
section
variable {w w' : World} {g : Nat} {b : Bk} {o p : Option Addr}
theorem BkAt.lv (h : BkAt w g b o p) : w.rangeAt g 19 [.pointer o, .int .i64 (b.live.length : Int), .int .i64 (b.rm : Int)] := range3 h.k19 h.k20 h.k21
theorem BkAt.dn (h : BkAt w g b o p) : w.rangeAt g 22 [.pointer p, .int .i64 (b.done.length : Int), .int .i64 (b.rm : Int)] := range3 h.k22 h.k23 h.k24
end
theorem run_load_sv {ρ : Operand → Value} {w : World} {x : Tmp} {g off : Nat} {o : Option Addr} {n r : Nat} {d : Option Tmp} {t : TypeId} {pos : String} {af : Array Edge} {gd : Option (Nat × Bool)} (e : ρ (.tmp x) = ptr g off) (h : w.rangeAt g off [.pointer o, .int .i64 (n : Int), .int .i64 (r : Int)]) :
  (execOp ρ { dst := d, op := Op.load 34 (.tmp x), type := t, pos := pos, after := af, guard := gd }).run Tryz.prog w = .ok (.value (sv o n r)) w := by
 unfold execOp
 simp only [e, Instr.loadAt, Instr.sureAddr, Sem.run_bind, Sem.run_pure, Result.andThen_ok, run_loadVar_mid (P := Tryz.prog) w g off 34 _ _ h Tryz.underlying34 rfl (size29 o n r)]
set_option maxRecDepth 100000 in
set_option maxHeartbeats 1000000 in
theorem isFull_any {b : Bk} {o p : Option Addr} {w : World} (hb : BAt w b o p) : Calls Tryz.prog 33 #[b.V o p] w (Yes w (b.live.length == b.rm)) := by
 have H := Lib.hid (new1 w (b.cells o p) 37)
 have HB := Lib.hid (hb.step H.out.1); clear hb
 obtain ⟨t, ht⟩ : ∃ t : Bool, (b.live.length == b.rm) = t := ⟨_, rfl⟩
 rw [ht]
 have d1 : ((b.live.length : Int) == (b.rm : Int)) = t := by
  rw [← ht, Bool.eq_iff_iff]; simp; omega
 have d2 : decide ((b.live.length : Int) = (b.rm : Int)) = t := by rw [← d1]; rfl
 clear ht
 go_enter Tryz.func33, Tryz.ntmps33
 go_upto_region 1 with fail
 obtain ⟨W, hW⟩ : ∃ W, w.alloc (.cells (b.cells o p) 37) = W := ⟨_, rfl⟩
 rw [hW] at H HB ⊢; clear hW
 refine AnyOrder.region_kinds2 7 [.eq (ptr w.heap.size 19), .eq (sv o b.live.length b.rm), .eq (.int .i64 (b.live.length : Int)), .eq (ptr w.heap.size 19), .eq (sv o b.live.length b.rm), .eq (.int .i64 (b.rm : Int)), .eq (.bool t)] (fun wx => Below W.heap.size W wx) (by kernel_rfl) (by kernel_rfl) rfl (by kernel_rfl) (below_drewN (Below.refl _ _) 1) (fun p _ _ hp => by simp at hp) ?_ ?_
 ·intro i o listed a1 w2 hin ho st hl hdep
  match i, ho with
  | 0, ho => (injection ho with ho; subst ho; have ec := AnyOrder.evc a1; have ef := AnyOrder.evf a1; have e0 : a1.eval (.tmp 1) = ptr w.heap.size 0 := st.old hl 1 (by kernel_rfl); exact AnyOrder.sv rfl rfl (ptr w.heap.size 19) (by generalize a1.eval = ρ at ec ef e0 ⊢; simp [execOp, ec, ef, e0, IntWalk.i64_left, go_sem]) st.inv (Below.refl _ _) rfl)
  | 1, ho => (injection ho with ho; subst ho; have e0 : a1.eval (.tmp 3) = ptr w.heap.size 19 := st.done 0 3 (hdep ⟨0, .data⟩ (by simp) rfl) rfl; exact AnyOrder.sv rfl rfl (sv o b.live.length b.rm) (run_load_sv e0 (BkAt.lv (At.step H.out.2 st.inv))) st.inv (Below.refl _ _) rfl)
  | 2, ho => (injection ho with ho; subst ho; have ec := AnyOrder.evc a1; have ef := AnyOrder.evf a1; have e0 : a1.eval (.tmp 4) = sv o b.live.length b.rm := st.done 1 4 (hdep ⟨1, .data⟩ (by simp) rfl) rfl; exact AnyOrder.step_call rfl (AnyOrder.wanted_none rfl) 49 #[sv o b.live.length b.rm] (by generalize a1.eval = ρ at ec ef e0 ⊢; simp [execOp, ec, ef, e0, go_sem]) ((Sh.len_any (HB.out.step st.inv).1).mono (fun e w3 h => by obtain ⟨rfl, hb⟩ := h; exact ⟨_, rfl, st.inv.trans (hb.mono st.inv.size), hb, rfl⟩)))
  | 3, ho => (injection ho with ho; subst ho; have ec := AnyOrder.evc a1; have ef := AnyOrder.evf a1; have e0 : a1.eval (.tmp 1) = ptr w.heap.size 0 := st.old hl 1 (by kernel_rfl); exact AnyOrder.sv rfl rfl (ptr w.heap.size 19) (by generalize a1.eval = ρ at ec ef e0 ⊢; simp [execOp, ec, ef, e0, IntWalk.i64_left, go_sem]) st.inv (Below.refl _ _) rfl)
  | 4, ho => (injection ho with ho; subst ho; have e0 : a1.eval (.tmp 6) = ptr w.heap.size 19 := st.done 3 6 (hdep ⟨3, .data⟩ (by simp) rfl) rfl; exact AnyOrder.sv rfl rfl (sv o b.live.length b.rm) (run_load_sv e0 (BkAt.lv (At.step H.out.2 st.inv))) st.inv (Below.refl _ _) rfl)
  | 5, ho => (injection ho with ho; subst ho; have ec := AnyOrder.evc a1; have ef := AnyOrder.evf a1; have e0 : a1.eval (.tmp 7) = sv o b.live.length b.rm := st.done 4 7 (hdep ⟨4, .data⟩ (by simp) rfl) rfl; exact AnyOrder.step_call rfl (AnyOrder.wanted_none rfl) 50 #[sv o b.live.length b.rm] (by generalize a1.eval = ρ at ec ef e0 ⊢; simp [execOp, ec, ef, e0, go_sem]) ((Sh.room_any (HB.out.step st.inv).1).mono (fun e w3 h => by obtain ⟨rfl, hb⟩ := h; exact ⟨_, rfl, st.inv.trans (hb.mono st.inv.size), hb, rfl⟩)))
  | 6, ho => (injection ho with ho; subst ho; have ec := AnyOrder.evc a1; have ef := AnyOrder.evf a1; have e0 : a1.eval (.tmp 5) = .int .i64 (b.live.length : Int) := st.done 2 5 (hdep ⟨2, .data⟩ (by simp) rfl) rfl; have e1 : a1.eval (.tmp 8) = .int .i64 (b.rm : Int) := st.done 5 8 (hdep ⟨5, .data⟩ (by simp) rfl) rfl; exact AnyOrder.sv rfl rfl (.bool t) (by generalize a1.eval = ρ at ec ef e0 e1 ⊢; simp [execOp, ec, ef, e0, e1, IntWalk.i64_left, d1, go_sem]) st.inv (Below.refl _ _) rfl)
  | n + 7, ho => exact absurd hin (by omega)
 ·intro w2 hJ
  simp only [AnyOrder.finK, List.take_succ_cons, List.take_zero, List.drop_succ_cons, List.drop_zero, Act.put, List.setIfInBounds_toArray, List.set_cons_zero, List.set_cons_succ]
  go_wp2_with fail
  go_ret
  exact ⟨rfl, H.out.1.trans (hJ.mono H.out.1.size)⟩
set_option maxRecDepth 100000 in
set_option maxHeartbeats 1000000 in
theorem canHave_any {b : Bk} {o p : Option Addr} (n m : Int) (w : World) : Calls Tryz.prog 38 #[b.V o p, .int .i64 n, .int .i64 m] w (Yes w (modeB b n != 0 && (m == 1 || m == 2))) := by
 have H := Lib.hid (new1 w (b.cells o p) 37)
 have CM := Lib.hid (fun W => mode_any b o p n W)
 generalize modeB b n = z at *
 obtain ⟨t1, t2, t3, h1, h2, h3⟩ : ∃ t1 t2 t3 : Bool, (z != 0) = t1 ∧ (m == 1) = t2 ∧ (m == 2) = t3 := ⟨_, _, _, rfl, rfl, rfl⟩
 rw [h1, h2, h3]
 have d1 : decide (z = 0) = !t1 := by rw [← h1]; simp [bne]; rfl
 have d2 : decide (m = 1) = t2 := by rw [← h2]; rfl
 have d3 : decide (m = 2) = t3 := by rw [← h3]; rfl
 go_enter Tryz.func38, Tryz.ntmps38
 go_upto_region 1 with fail
 obtain ⟨W, hW⟩ : ∃ W, w.alloc (.cells (b.cells o p) 37) = W := ⟨_, rfl⟩
 rw [hW] at H ⊢; clear hW
 have HK := Lib.hid H.out.2
 cases t1 <;> cases t2 <;> cases t3
 all_goals
  go_wp2_with ((with_reducible apply wpList_load_bk (h := HK.out)); exact rfl; exact rfl; exact rfl)
  refine (CM.out _).mono ?_
  rintro e w1 ⟨rfl, hb⟩
  go_wp2_with fail
  go_ret
  exact ⟨rfl, H.out.1.trans (hb.mono H.out.1.size)⟩
structure CSt (w wx : World) (B : Nat) (sv rv : Value) (ps : List KV) (xs : List K) : Prop where
 src : Sh.Own Sh.eK wx B sv ps
 own : Sh.Own Sh.eC wx w.heap.size rv xs
 bel : Below w.heap.size w wx
 lo : w.heap.size ≤ B
theorem CSt.step {w wx wy : World} {B : Nat} {sv rv : Value} {ps : List KV} {xs : List K} (h : CSt w wx B sv rv ps xs) (hb : Below wx.heap.size wx wy) : CSt w wy B sv rv ps xs := ⟨h.src.below hb, h.own.below hb, h.bel.trans (hb.mono h.bel.size), h.lo⟩
theorem CSt.push {w wx : World} {B : Nat} {sv rv : Value} {ps : List KV} {xs : List K} (h : CSt w wx B sv rv ps xs) (x : K) (hn : xs.length ≤ 100000) (ty : TypeId) :
  ∃ rv' w', (Builtin.append_ #[63, 63] ty #[rv, .slice (some ⟨wx.heap.size, 0, none⟩) 1 1]).run Tryz.prog (wx.alloc (.cells x.cells 46)) = .ok rv' w' ∧ CSt w w' B sv rv' ps (xs ++ [x]) := by
 have hb : Below wx.heap.size wx (wx.alloc (.cells x.cells 46)) := below_new _ _
 have ho := h.own.below hb
 have hs := h.bel.size
 obtain ⟨rv', w', hr, o', c', l'⟩ := ho.push (x := x) (b := wx.heap.size) (off := 0) (cap := 1) (by simp; omega) (fun j u hu => by
  rw [Nat.zero_add, (At.new wx 46 x.cells).cell]
  simpa [Sh.eC] using hu) (by omega) ty
 have hb2 : Below w.heap.size w w' := (h.bel.trans (hb.mono hs)).trans (c'.below' ho (by simp; omega))
 exact ⟨rv', w', hr, ⟨(h.src.below hb).chg c' (Sh.own_ne_t (h.src.below hb) ho (by decide)), o', hb2, h.lo⟩⟩
theorem CSt.cell {w wx : World} {B j : Nat} {sv rv : Value} {ps : List KV} {xs : List K} (h : CSt w wx B sv rv ps xs) (hj : j < ps.length) :
  ∃ g cap x, sv = .slice (some ⟨g, 0, none⟩) ps.length cap ∧ ps[j]? = some x ∧ wx.rangeAt g (j * 9) (Sh.pc x).toList := by
 have hx : ps[j]? = some ps[j] := List.getElem?_eq_getElem hj
 rcases h.src.form with ⟨rfl, h0⟩ | ⟨g, cap, rfl, hc, _, _⟩
 ·subst h0; simp at hj
 ·obtain ⟨O, cap', e, _, k⟩ := h.src.rd
  obtain ⟨b, off, e2, _, k2⟩ := k j _ hx
  injection e with e e3 e4
  rw [e2] at e
  injection e with e
  injection e with e5 e6
  subst e5; subst e6
  exact ⟨g, cap, ps[j], rfl, hx, fun i u hu => by
   have := k2 i u hu
   rwa [Nat.zero_add] at this⟩
theorem CSt.len {w wx : World} {B : Nat} {sv rv : Value} {ps : List KV} {xs : List K} (h : CSt w wx B sv rv ps xs) : ∃ O cap, sv = .slice O ps.length cap := by
 rcases h.src.form with ⟨rfl, h0⟩ | ⟨g, cap, rfl, hc, _, _⟩
 ·subst h0; exact ⟨_, _, rfl⟩
 ·exact ⟨_, _, rfl⟩
theorem size75 (x : KV) : (Tryz.prog.info? 119).map (·.size) = some (Sh.pc x).size := by kernel_rfl
abbrev PrAt (w : World) (g : Nat) (x : KV) : Prop := At w g 119 (Sh.pc x)
theorem PrAt.kk {w : World} {g : Nat} {x : KV} (h : PrAt w g x) : w.rangeAt g 1 x.2.cells.toList := fun j u hu => by
 rw [At.cell h]
 exact Sh.pc_val x (by simpa using hu)
section
variable {ops : Array Oper} {rest : List Oper} {o : Oper} {a : Act} {w : World} {Q : Exit → Act → World → Prop}
theorem wpList_load_pr (x : Tmp) (ho : o.op = .load 119 (.tmp x)) (hgd : Region.wanted o (yielded ops a.tmps) = true) {g off : Nat} {c : KV} (e : a.eval (.tmp x) = ptr g off) (h : w.rangeAt g off (Sh.pc c).toList)
  (k : wpList Tryz.prog ops Q rest (a.put o.dst (.agg (Sh.pc c))) w) : wpList Tryz.prog ops Q (o :: rest) a w :=
 wpList_load_part 119 x ho hgd e h Tryz.underlying119 rfl (size75 c) k
theorem wpList_store_prnew (x y : Tmp) (ho : o.op = .store 119 (.tmp x) (.tmp y)) (hgd : o.guard = none) {c : KV} (e1 : a.eval (.tmp x) = ptr w.heap.size 0) (e2 : a.eval (.tmp y) = .agg (Sh.pc c))
  (k : wpList Tryz.prog ops Q rest (a.put o.dst undef) (w.alloc (.cells (Sh.pc c) 119))) : wpList Tryz.prog ops Q (o :: rest) a (w.alloc (.cells #[.int .i64 0, .int .i64 0, .int .i64 0, .int .i64 0, .int .i64 0, .int .i64 0, .int .i64 0, .int .i64 0, .int .i64 0] 119)) := by
 refine wpList_store_row hgd 119 (.tmp x) (.tmp y) ho w.heap.size (Sh.pc c) e1 e2 119 Sh.Z9 (At.new w 119 Sh.Z9) (size75 c) rfl (by simp [Sh.pc, Value.oneCell']) ?_
 rw [World.setRow_alloc_new]
 exact k
end
theorem wpList_slice1 {ops : Array Oper} {rest : List Oper} {o : Oper} {a : Act} {w : World} {Q : Exit → Act → World → Prop} (y : Tmp) (ho : o.op = .buildSlice 63 1 #[(0, .tmp y)]) (hgd : o.guard = none) {c : K} (e : a.eval (.tmp y) = c.V)
  (k : wpList Tryz.prog ops Q rest (a.put o.dst (.slice (some ⟨w.heap.size, 0, none⟩) 1 1)) (w.alloc (.cells c.cells 46))) : wpList Tryz.prog ops Q (o :: rest) a w := by
 obtain ⟨ie, hie, hz, hsz, _⟩ := Sh.info_of (e := 46) (z := .agg Z8) (s := 8) (b := 64) (by kernel_rfl)
 refine wpList_buildSlice hgd 63 46 1 _ ho c.cells ie (.agg Z8) Tryz.underlying63 hie hz (by rw [hsz]; decide) (by rw [hsz]; decide) ?_ k
 rw [hsz]
 simp only [List.map_toArray, List.map_cons, List.map_nil, e]
 kernel_rfl
set_option maxRecDepth 100000 in
set_option maxHeartbeats 1600000 in
theorem calls_any {w : World} {v : Value} {l : List KV} {room : Nat} (h : Sh.SAt w v l room) : Calls Tryz.prog 40 #[v] w (Sh.RPost Sh.eC w (l.map (·.2))) := by
 obtain ⟨o, rfl⟩ := h.form
 have H := Lib.hid (new1 w #[.pointer o, .int .i64 (l.length : Int), .int .i64 (room : Int)] 34)
 have hl := h.le
 obtain ⟨M, hmk0, hown⟩ := Sh.made Sh.eC l.length (by omega)
 have HMK := Lib.hid hmk0; clear hmk0
 have CL := Lib.hid (Sh.len_any (h.step H.out.1))
 have HS := Lib.hid (h.step H.out.1); clear h
 have HLE : Hid (l.length ≤ 65536) := Lib.hid (by omega); clear hl
 have HOWN := Lib.hid hown; clear hown
 go_enter Tryz.func40, Tryz.ntmps40
 go_upto_region 1 with fail
 obtain ⟨W, hW⟩ : ∃ W, w.alloc (.cells #[.pointer o, .int .i64 (l.length : Int), .int .i64 (room : Int)] 34) = W := ⟨_, rfl⟩
 rw [hW] at H HS CL ⊢; clear hW
 have k0 : W.cell? ⟨w.heap.size, 0, none⟩ = some (.pointer o) := by rw [At.cell H.out.2]; rfl
 have k1 : W.cell? ⟨w.heap.size, 1, none⟩ = some (.int .i64 (l.length : Int)) := by rw [At.cell H.out.2]; rfl
 have k2 : W.cell? ⟨w.heap.size, 2, none⟩ = some (.int .i64 (room : Int)) := by rw [At.cell H.out.2]; rfl
 have hmk : ∀ W : World, (Instr.makeSlice 63 (.int .i64 0) (.int .i64 (l.length : Int))).run Tryz.prog W = .ok (.slice (some ⟨W.heap.size, 0, none⟩) 0 l.length) (W.alloc (.cells M 46)) := HMK.out
 go_upto_region 2 with (first | (go_at_call 49; (with_reducible refine CL.out.mono ?_); rintro e w1 ⟨rfl, hb1⟩))
 obtain ⟨W2, hW2⟩ : ∃ W2, w1.alloc (.cells M 46) = W2 := ⟨_, rfl⟩
 have b2 : Below W.heap.size W W2 := by rw [← hW2]; exact hb1.trans ((below_new _ _).mono hb1.size)
 have o2 : Sh.Own Sh.eC W2 w.heap.size (.slice (some ⟨w1.heap.size, 0, none⟩) 0 l.length) [] := by rw [← hW2]; exact HOWN.out w1 w.heap.size (Nat.le_trans H.out.1.size hb1.size)
 rw [hW2]; clear hW2
 have A2 := At.step H.out.2 b2
 have HL := Lib.hid (Sh.List_any (HS.out.step b2))
 have k0 : W2.cell? ⟨w.heap.size, 0, none⟩ = some (.pointer o) := by rw [At.cell A2]; rfl
 have k1 : W2.cell? ⟨w.heap.size, 1, none⟩ = some (.int .i64 (l.length : Int)) := by rw [At.cell A2]; rfl
 have k2 : W2.cell? ⟨w.heap.size, 2, none⟩ = some (.int .i64 (room : Int)) := by rw [At.cell A2]; rfl
 have B2 := Lib.hid (H.out.1.trans (b2.mono H.out.1.size)); have O2 := Lib.hid o2
 generalize Value.slice (some ⟨w1.heap.size, 0, none⟩) 0 l.length = rv0 at O2 ⊢
 clear b2 o2 A2 H HS HMK hmk CL HOWN hb1
 go_wp2_with fail
 refine HL.out.mono ?_
 rintro e w3 ⟨sv, rfl, o3, b3⟩
 have hst : CSt w w3 W2.heap.size sv rv0 l [] := ⟨o3, O2.out.below b3, B2.out.trans (b3.mono B2.out.size), B2.out.size⟩
 generalize W2.heap.size = B at *
 obtain ⟨O, cap, rfl⟩ := hst.len
 have HST := Lib.hid hst; clear hst HL k0 k1 k2 o3 b3 B2 O2
 obtain ⟨n, hn⟩ : ∃ n, n = l.length := ⟨_, rfl⟩
 rw [← hn] at HST HLE ⊢
 have HNN := Lib.hid hn; clear hn
 go_wp2_with fail
 go_loopg [12, 3] n (fun gh s12 s3 wx => ∃ (j : Nat) (rv : Value), j ≤ n ∧ gh = n - j ∧ s12 = .int .i64 (j : Int) ∧ rv = s3 ∧ CSt w wx B (.slice O n cap) rv l ((l.take j).map (·.2)))
 case atStart => exact ⟨0, _, Nat.zero_le _, rfl, rfl, rfl, HST.out⟩
 case round =>
  obtain ⟨j, rv, hj, hg, rfl, rfl, hst⟩ := hrel
  have HG := Lib.hid hg; clear hg HST
  by_cases hlt : j < n
  ·obtain ⟨g, cap', x, hsv, hpx, hr9⟩ := hst.cell (j := j) (by rw [← HNN.out]; exact hlt)
   rw [← HNN.out] at hsv
   injection hsv with e1 _ e3
   subst e1; subst e3
   have st1 := hst.step (below_new wr (.cells (Sh.pc x) 119))
   obtain ⟨rv', w', hr, hst'⟩ := st1.push x.2 (by rw [List.length_map, List.length_take]; have := HLE.out; omega) 63
   have HR := Lib.hid hr; have HST2 := Lib.hid hst'
   have HPX := Lib.hid hpx; have H9 := Lib.hid hr9
   have HP := Lib.hid (PrAt.kk (At.new wr 119 (Sh.pc x)))
   have b3 : (j : Int) < (n : Int) := by omega
   have b4 : (0 : Int) ≤ (j : Int) := by omega
   clear hr hst hst' hpx hr9 st1
   go_upto_region 5 with (first | ((with_reducible apply wpList_load_pr (c := x) (h := H9.out)); exact rfl; exact rfl; exact rfl) | ((with_reducible apply wpList_store_prnew (c := x)); exact rfl; exact rfl; exact rfl; exact rfl))
   obtain ⟨W5, hW5⟩ : ∃ W5, wr.alloc (.cells (Sh.pc x) 119) = W5 := ⟨_, rfl⟩
   have hs5 : W5.heap.size = wr.heap.size + 1 := by rw [← hW5]; simp
   rw [hW5] at HP HR ⊢; clear hW5
   go_wp2_with (first | ((with_reducible apply wpList_load_kpart (c := x.2) (h := HP.out)); exact rfl; exact rfl; exact rfl) | ((with_reducible apply wpList_slice1 (c := x.2)); exact rfl; exact rfl; exact rfl) | (at_builtin; (refine Lib.wpList_append_run _ rfl (.tmp 16) (.tmp 19) 63 63 rfl _ _ rfl rfl rv' w' HR.out ?_)))
   go_roundg (n - (j + 1))
   case measure => have := HG.out; omega
   case rel => exact ⟨j + 1, _, by omega, rfl, (by have := HLE.out; have := HNN.out; rw [IntWalk.wrap64_in _ (by omega)]; rfl), rfl, by rw [List.take_add_one, HPX.out]; simp only [Option.toList, List.map_append]; exact HST2.out⟩
  ·obtain rfl : j = n := by omega
   have HST2 := Lib.hid hst; clear hst
   go_wp2_with fail
   go_ret
   refine ⟨rv, rfl, ?_, HST2.out.bel⟩
   have := HST2.out.own
   rw [HNN.out, List.take_length] at this
   exact this
theorem live_any {b : Bk} {o p : Option Addr} {w : World} (hb : BAt w b o p) : Calls Tryz.prog 21 #[b.V o p] w (Sh.RPost Sh.eC w (b.live.map (·.2))) := by
 have H := Lib.hid (new1 w (b.cells o p) 37)
 have CC := Lib.hid (calls_any (hb.step H.out.1).1); clear hb
 go_enter Tryz.func21, Tryz.ntmps21
 go_upto_region 1 with fail
 obtain ⟨W, hW⟩ : ∃ W, w.alloc (.cells (b.cells o p) 37) = W := ⟨_, rfl⟩
 rw [hW] at H CC ⊢; clear hW
 have k0 := BkAt.k19 H.out.2; have k1 := BkAt.k20 H.out.2; have k2 := BkAt.k21 H.out.2
 go_wp2_with fail
 refine CC.out.mono ?_
 rintro e w1 ⟨sv', rfl, ho, hb⟩
 go_wp2_with fail
 go_ret
 exact ⟨sv', rfl, ho.mono H.out.1.size, H.out.1.trans (hb.mono H.out.1.size)⟩
theorem done_any {b : Bk} {o p : Option Addr} {w : World} (hb : BAt w b o p) : Calls Tryz.prog 82 #[b.V o p] w (Sh.RPost Sh.eC w (b.done.map (·.2))) := by
 have H := Lib.hid (new1 w (b.cells o p) 37)
 have CC := Lib.hid (calls_any (hb.step H.out.1).2); clear hb
 go_enter Tryz.func82, Tryz.ntmps82
 go_upto_region 1 with fail
 obtain ⟨W, hW⟩ : ∃ W, w.alloc (.cells (b.cells o p) 37) = W := ⟨_, rfl⟩
 rw [hW] at H CC ⊢; clear hW
 have k0 := BkAt.k22 H.out.2; have k1 := BkAt.k23 H.out.2; have k2 := BkAt.k24 H.out.2
 go_wp2_with fail
 refine CC.out.mono ?_
 rintro e w1 ⟨sv', rfl, ho, hb⟩
 go_wp2_with fail
 go_ret
 exact ⟨sv', rfl, ho.mono H.out.1.size, H.out.1.trans (hb.mono H.out.1.size)⟩
end Go.Proofs.YtplapoenhohliaaGreat
