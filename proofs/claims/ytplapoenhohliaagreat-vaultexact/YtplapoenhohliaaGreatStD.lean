import Derived.Test.YtplapoenhohliaaGreatShA
import Derived.Test.YtplapoenhohliaaGreatStA
namespace Go.Proofs.YtplapoenhohliaaGreat.Sh
open Go.RowKit Go.Lib Plain
set_option linter.unusedVariables false
section
variable {w w' : World} {v : Value} {l : List KV} {room : Nat}
set_option maxRecDepth 100000 in
set_option maxHeartbeats 1600000 in
theorem wo_none {o : Option Addr} {k : Int} {N : Nat} {t : T} (ht : TAt w w.heap.size (.pointer o) t) (hr : Rise t.kvs) (hg : get k t.kvs = none) :
  Calls Tryz.prog 86 #[.agg #[.pointer o, .int .i64 (N : Int), .int .i64 (room : Int)], .int .i64 k] w fun e w' => e = .returned (.agg #[.pointer o, .int .i64 (N : Int), .int .i64 (room : Int)]) ∧ Below w.heap.size w w' := by
 have hb : Below w.heap.size w ((w.alloc (.cells #[.pointer o, .int .i64 (N : Int), .int .i64 (room : Int)] 34)).alloc (.cells #[.pointer none, .int .i64 0, .int .i64 0] 34)) := ((Below.refl _ _).alloc (Nat.le_refl _) _).alloc (by simp) _
 have cf := find_any k (ht.step hb) hr
 rw [hg] at cf
 have CF := Lib.hid cf
 have HB := Lib.hid hb; clear hb ht hr hg cf
 go_enter Tryz.func86, Tryz.ntmps86
 go_wp2_with fail
 refine CF.out.mono ?_
 rintro e w2 ⟨rfl, ⟨_, rfl⟩ | ⟨g, p, vl, vr, hh, x, h0, _⟩⟩
 ·go_wp2_with fail
  exact bodyPost_ret (v := .agg #[.pointer o, .int .i64 (N : Int), .int .i64 (room : Int)]) (by simp [results, Tryz.results86, go_sem]) rfl ⟨rfl, ((Below.refl _ _).alloc (Nat.le_refl _) _).alloc (by simp) _⟩
 ·cases h0
abbrev delW (w : World) (o : Option Addr) (N room : Nat) : World :=
 (w.alloc (.cells #[.pointer o, .int .i64 (N : Int), .int .i64 (room : Int)] 34)).alloc (.cells #[.pointer none, .int .i64 0, .int .i64 0] 34)
set_option maxRecDepth 100000 in
set_option maxHeartbeats 1600000 in
theorem wo_some {o : Option Addr} {k : Int} {y : K} {N M : Nat} {t : T} {L : List KV} (ht : TAt w w.heap.size (.pointer o) t) (hr : Rise t.kvs) (hg : get k t.kvs = some y) (hM : N = M + 1) (hN : N ≤ 1000000)
  (cw : Calls Tryz.prog 101 #[.pointer o, .int .i64 k] (delW w o N room) (WPost (delW w o N room) L)) :
  Calls Tryz.prog 86 #[.agg #[.pointer o, .int .i64 (N : Int), .int .i64 (room : Int)], .int .i64 k] w fun e w' => ∃ o' t', e = .returned (.agg #[.pointer o', .int .i64 (M : Int), .int .i64 (room : Int)]) ∧ TAt w' w'.heap.size (.pointer o') t' ∧ t'.kvs = L ∧ Below w.heap.size w w' := by
 have hb : Below w.heap.size w ((w.alloc (.cells #[.pointer o, .int .i64 (N : Int), .int .i64 (room : Int)] 34)).alloc (.cells #[.pointer none, .int .i64 0, .int .i64 0] 34)) := ((Below.refl _ _).alloc (Nat.le_refl _) _).alloc (by simp) _
 have cf := find_any k (ht.step hb) hr
 rw [hg] at cf
 have CF := Lib.hid cf; have CW := Lib.hid cw
 have HB := Lib.hid hb; clear hb ht hr hg cf cw
 have f2 : IntKind.i64.wrap ((N : Int) - 1) = (M : Int) := by rw [IntWalk.i64_in _ (by omega)]; omega
 clear hM hN
 go_enter Tryz.func86, Tryz.ntmps86
 go_wp2_with fail
 refine CF.out.mono ?_
 rintro e w2 ⟨rfl, ⟨h0, _⟩ | ⟨g, p, vl, vr, hh, y', _, rfl, _, _⟩⟩
 ·cases h0
 ·clear CF
  go_wp2_with fail
  refine CW.out.mono ?_
  rintro e w5 ⟨v5, t5, rfl, T5, k5, b5⟩
  obtain ⟨o5, rfl⟩ := T5.ptr
  have hs : w5.heap.size ≥ w.heap.size + 2 := by have := b5.size; simpa using this
  have a1 : At w5 w.heap.size 34 #[.pointer o, .int .i64 (N : Int), .int .i64 (room : Int)] := At.below ((At.new w 34 _).alloc _) b5 (by simp; omega)
  have a2 : At w5 (w.heap.size + 1) 34 #[.pointer none, .int .i64 0, .int .i64 0] := by
   have := (At.new (w.alloc (.cells #[.pointer o, .int .i64 (N : Int), .int .i64 (room : Int)] 34)) 34 #[.pointer none, .int .i64 0, .int .i64 0])
   have e : (w.alloc (.cells #[.pointer o, .int .i64 (N : Int), .int .i64 (room : Int)] 34)).heap.size = w.heap.size + 1 := by simp
   rw [e] at this
   exact this.below b5 (by simp)
  have c0 : w5.cell? ⟨w.heap.size, 0, none⟩ = some (.pointer o) := by rw [a1.cell]; rfl
  have c1 : w5.cell? ⟨w.heap.size, 1, none⟩ = some (.int .i64 (N : Int)) := by rw [a1.cell]; rfl
  have c2 : w5.cell? ⟨w.heap.size, 2, none⟩ = some (.int .i64 (room : Int)) := by rw [a1.cell]; rfl
  have z0 := a1.frozen 0; have z1 := a1.frozen 1
  have d0 : w5.cell? ⟨w.heap.size + 1, 0, none⟩ = some (.pointer none) := by rw [a2.cell]; rfl
  have d1 : w5.cell? ⟨w.heap.size + 1, 1, none⟩ = some (.int .i64 0) := by rw [a2.cell]; rfl
  have d2 : w5.cell? ⟨w.heap.size + 1, 2, none⟩ = some (.int .i64 0) := by rw [a2.cell]; rfl
  have y0 := a2.frozen 0; have y1 := a2.frozen 1; have y2 := a2.frozen 2
  have hb5 : Below w.heap.size w w5 := HB.out.trans (b5.mono (by simp; omega))
  have ne : w.heap.size + 1 ≠ w.heap.size := by omega
  have a3 := (at3 a1 (.pointer o5)).1
  have a1' : At ((w5.setCell ⟨w.heap.size, 0, none⟩ (.pointer o5)).setCell ⟨w.heap.size, 1, none⟩ (.int .i64 (M : Int))) (w.heap.size + 1) 34 #[.pointer none, .int .i64 0, .int .i64 0] := (a2.far ne _).far ne _
  have hfin : TAt (((((w5.setCell ⟨w.heap.size, 0, none⟩ (.pointer o5)).setCell ⟨w.heap.size, 1, none⟩ (.int .i64 (M : Int))).setCell ⟨w.heap.size + 1, 0, none⟩ (.pointer o5)).setCell ⟨w.heap.size + 1, 1, none⟩ (.int .i64 (M : Int))).setCell ⟨w.heap.size + 1, 2, none⟩ (.int .i64 (room : Int))) w5.heap.size (.pointer o5) t5 :=
   ((T5.far a1 (by decide) (by decide)).far a3 (by decide) (by decide)).store3 a1' (by decide) (by decide)
  have hbf : Below w.heap.size w (((((w5.setCell ⟨w.heap.size, 0, none⟩ (.pointer o5)).setCell ⟨w.heap.size, 1, none⟩ (.int .i64 (M : Int))).setCell ⟨w.heap.size + 1, 0, none⟩ (.pointer o5)).setCell ⟨w.heap.size + 1, 1, none⟩ (.int .i64 (M : Int))).setCell ⟨w.heap.size + 1, 2, none⟩ (.int .i64 (room : Int))) :=
   (((((hb5.setCell (Nat.le_refl _) _).setCell (Nat.le_refl _) _).setCell (by simp) _).setCell (by simp) _).setCell (by simp) _)
  have T5' := Lib.hid hfin; have B5 := Lib.hid hbf; clear T5 b5 a1 a2 CW HB hfin hbf hb5 a1' a3
  go_wp2_with fail
  exact bodyPost_ret (v := .agg #[.pointer o5, .int .i64 (M : Int), .int .i64 (room : Int)]) (by simp [results, Tryz.results86, go_sem, *]) rfl ⟨o5, t5, rfl, by simp only [size_set]; exact T5'.out, k5, B5.out⟩
theorem Without_any (k : Int) (h : SAt w v l room) : Calls Tryz.prog 86 #[v, .int .i64 k] w (SPost w (del k l) room) := by
 obtain ⟨vt, t, rfl, ht, rfl, hr, h1, h2⟩ := h
 obtain ⟨o, rfl⟩ := ht.ptr
 cases hg : get k t.kvs with
 | none =>
  refine (wo_none ht hr hg).mono ?_
  rintro e w' ⟨rfl, hb⟩
  refine ⟨_, rfl, ?_, hb⟩
  rw [del_none (get_none_iff hg)]
  exact ⟨_, t, rfl, ht.step hb, rfl, hr, h1, h2⟩
 | some y =>
  have hb : Below w.heap.size w (delW w o t.kvs.length room) := ((Below.refl _ _).alloc (Nat.le_refl _) _).alloc (by simp) _
  have hpos : 0 < t.kvs.length := List.length_pos_of_mem (get_mem hg)
  have el : (del k t.kvs).length = t.kvs.length - 1 := by rw [del_length hr, hg]; rfl
  refine (wo_some (M := t.kvs.length - 1) ht hr hg (by omega) (by omega) (without_any (ht.step hb) hr (by omega))).mono ?_
  rintro e w' ⟨o', t', rfl, ht', hk, hb⟩
  refine ⟨_, rfl, ⟨_, t', by rw [el], ht', hk, hr.del, by omega, h2⟩, hb⟩
def RPost {α : Type} (E : El α) (w : World) (xs : List α) (e : Ending) (w' : World) : Prop := ∃ sv, e = .returned sv ∧ Own E w' w.heap.size sv xs ∧ Below w.heap.size w w'
theorem own_ne_t {α β : Type} {E : El α} {F : El β} {B C : Nat} {u : Value} {xs : List α} {ys : List β} (h : Own E w B v xs) (k : Own F w C u ys) (hne : E.e ≠ F.e) : ∀ g, v.ownBlock = some g → ¬ u.ownBlock = some g := fun g hg e => own_ne2 h k hne hg e
structure LSt {α : Type} (E : El α) (w wx : World) (B : Nat) (sv rv : Value) (ps : List (Nat × KV)) (xs : List α) : Prop where
 src : Own eP wx B sv (ps.map (·.1))
 at_ : ∀ y ∈ ps, y.1 < w.heap.size ∧ PAt wx y.1 y.2
 own : Own E wx w.heap.size rv xs
 bel : Below w.heap.size w wx
 lo : w.heap.size ≤ B
theorem LSt.push {α : Type} {E : El α} {wx : World} {B : Nat} {sv rv : Value} {ps : List (Nat × KV)} {xs : List α} (h : LSt E w wx B sv rv ps xs) (hne : eP.e ≠ E.e) (x : α) (hn : xs.length ≤ 100000) (ty : TypeId) :
  ∃ rv' w', (Builtin.append_ #[E.ts, E.ts] ty #[rv, .slice (some ⟨wx.heap.size, 0, none⟩) 1 1]).run Tryz.prog (wx.alloc (.cells (E.enc x).toArray E.e)) = .ok rv' w' ∧ LSt E w w' B sv rv' ps (xs ++ [x]) := by
 have hb : Below wx.heap.size wx (wx.alloc (.cells (E.enc x).toArray E.e)) := (Below.refl _ _).alloc (Nat.le_refl _) _
 have ho := h.own.below hb
 have hs := h.bel.size
 obtain ⟨rv', w', hr, o', c', l'⟩ := ho.push (x := x) (b := wx.heap.size) (off := 0) (cap := 1) (by simp; omega) (fun j u hu => by
  rw [(At.new wx E.e (E.enc x).toArray).cell]
  simpa using hu) (by omega) ty
 have hb2 : Below w.heap.size w w' := (h.bel.trans (hb.mono hs)).trans (c'.below' ho (by simp; omega))
 refine ⟨rv', w', hr, ⟨(h.src.below hb).chg c' (own_ne_t (h.src.below hb) ho hne), fun y hy => ?_, o', hb2, h.lo⟩⟩
 obtain ⟨h1, h2⟩ := h.at_ y hy
 exact ⟨h1, (h2.keep hb h2.lt).chg c' (fun e => by have := (ho.lt e).1; omega)⟩
end
end Go.Proofs.YtplapoenhohliaaGreat.Sh
namespace Go.Proofs.YtplapoenhohliaaGreat.Sh
open Go.RowKit Go.Lib Plain
set_option linter.unusedVariables false
section
variable {w w' : World} {v : Value} {l : List KV} {room : Nat}
theorem LSt.cell {α : Type} {E : El α} {wx : World} {B j : Nat} {sv rv : Value} {ps : List (Nat × KV)} {xs : List α} (h : LSt E w wx B sv rv ps xs) (hj : j < ps.length) :
  ∃ g cap p x, sv = .slice (some ⟨g, 0, none⟩) ps.length cap ∧ ps[j]? = some (p, x) ∧ wx.cell? ⟨g, j, none⟩ = some (ptr p) ∧ PAt wx p x := by
 have hx : ps[j]? = some ps[j] := List.getElem?_eq_getElem hj
 rcases h.src.form with ⟨rfl, h0⟩ | ⟨g, cap, rfl, hc, _, _⟩
 ·simp at h0; subst h0; simp at hj
 ·obtain ⟨b, off, e, hb, k⟩ := h.src.rd.cellP (i := j) (p := ps[j].1) (by rw [List.getElem?_map, hx]; rfl)
  injection e with e
  injection e with e1 e2 e3
  subst e1; subst e2
  rw [Nat.zero_add] at k
  exact ⟨g, cap, ps[j].1, ps[j].2, by rw [List.length_map], hx, k, (h.at_ _ (List.getElem_mem hj)).2⟩
theorem LSt.len {α : Type} {E : El α} {wx : World} {B : Nat} {sv rv : Value} {ps : List (Nat × KV)} {xs : List α} (h : LSt E w wx B sv rv ps xs) : ∃ O cap, sv = .slice O ps.length cap := by
 rcases h.src.form with ⟨rfl, h0⟩ | ⟨g, cap, rfl, hc, _, _⟩
 ·simp at h0; subst h0; exact ⟨_, _, rfl⟩
 ·exact ⟨_, _, by rw [List.length_map]⟩
theorem start_lst {α : Type} {E : El α} {o : Option Addr} {N : Nat} {t : T} {M : Array Value} (ht : TAt w w.heap.size (.pointer o) t) (ho : ∀ (W : World) (B : Nat), B ≤ W.heap.size → Own E (W.alloc (.cells M E.e)) B (.slice (some ⟨W.heap.size, 0, none⟩) 0 N) []) (hn : t.kvs.length ≤ 70000) (W : World)
  (hW : W = (w.alloc (.cells #[.pointer o, .int .i64 (t.kvs.length : Int), .int .i64 (room : Int)] 34)).alloc (.cells M E.e)) :
  Calls Tryz.prog 89 #[.agg #[.pointer o, .int .i64 (t.kvs.length : Int), .int .i64 (room : Int)]] W fun e w' => ∃ sv, e = .returned sv ∧ LSt E w w' W.heap.size sv (.slice (some ⟨w.heap.size + 1, 0, none⟩) 0 N) t.its [] := by
 have hb : Below w.heap.size w W := by subst hW; exact ((Below.refl _ _).alloc (Nat.le_refl _) _).alloc (by simp) _
 have hown : Own E W w.heap.size (.slice (some ⟨w.heap.size + 1, 0, none⟩) 0 N) [] := by
  subst hW
  have := ho (w.alloc (.cells #[.pointer o, .int .i64 (t.kvs.length : Int), .int .i64 (room : Int)] 34)) w.heap.size (by simp)
  have e : (w.alloc (.cells #[.pointer o, .int .i64 (t.kvs.length : Int), .int .i64 (room : Int)] 34)).heap.size = w.heap.size + 1 := by simp
  rw [e] at this
  exact this
 refine (pairs_any (ht.step hb) hn).mono ?_
 rintro e w' ⟨sv, rfl, o1, b1⟩
 exact ⟨sv, rfl, o1, fun y hy => ⟨(ht.its_at y hy).1, ((ht.its_at y hy).2.step hb).step b1⟩, hown.below b1, hb.trans (b1.mono hb.size), hb.size⟩
set_option maxRecDepth 100000 in
set_option maxHeartbeats 1600000 in
theorem List_any (h : SAt w v l room) : Calls Tryz.prog 54 #[v] w (RPost eK w l) := by
 obtain ⟨vt, t, rfl, ht, rfl, hr, h1, h2⟩ := h
 obtain ⟨o, rfl⟩ := ht.ptr
 obtain ⟨M, hmk0, hown⟩ := made eK t.kvs.length (by omega)
 have hmk : ∀ W : World, (Instr.makeSlice 116 (.int .i64 0) (.int .i64 (t.kvs.length : Int))).run Tryz.prog W = .ok (.slice (some ⟨W.heap.size, 0, none⟩) 0 t.kvs.length) (W.alloc (.cells M 119)) := hmk0
 have CP := Lib.hid (start_lst (room := room) ht hown (by omega) _ rfl)
 have hle : t.its.length ≤ 70000 := by have := t.kvs_length; omega
 have HLE := Lib.hid hle
 have hkv : t.its.map (·.2) = t.kvs := rfl
 have HKV := Lib.hid hkv
 clear ht hown hmk0 hr hle hkv h1 h2
 generalize t.kvs.length = N at *
 generalize t.kvs = kk at *
 generalize t.its = ps at *
 go_enter Tryz.func54, Tryz.ntmps54
 go_wp2_with fail
 refine CP.out.mono ?_
 rintro e w2 ⟨sv, rfl, hst⟩
 obtain ⟨O, cap, rfl⟩ := hst.len
 generalize ((w.alloc (.cells #[.pointer o, .int .i64 (N : Int), .int .i64 (room : Int)] 34)).alloc (.cells M eK.e)).heap.size = B at *
 have HST := Lib.hid hst; clear hst CP hmk
 obtain ⟨n, hn⟩ : ∃ n, n = ps.length := ⟨_, rfl⟩
 rw [← hn] at HST ⊢
 have HNN := Lib.hid hn; clear hn
 go_wp2_with fail
 go_loopg [12, 3] n (fun gh s12 s3 wx => ∃ (j : Nat) (rv : Value), j ≤ n ∧ gh = n - j ∧ s12 = .int .i64 (j : Int) ∧ rv = s3 ∧ LSt eK w wx B (.slice O n cap) rv ps ((ps.take j).map (·.2)))
 case atStart => exact ⟨0, _, Nat.zero_le _, rfl, rfl, rfl, HST.out⟩
 case round =>
  obtain ⟨j, rv, hj, hg, rfl, rfl, hst⟩ := hrel
  have HG := Lib.hid hg; clear hg HST
  by_cases hlt : j < n
  ·obtain ⟨g, cap', p, x, hsv, hpx, k0, kx⟩ := hst.cell (j := j) (by rw [← HNN.out]; exact hlt)
   rw [← HNN.out] at hsv
   injection hsv with e1 _ e3
   subst e1; subst e3
   have q0 := kx.c0
   obtain ⟨q1, q2, q3, q4, q5, q6, q7, q8⟩ := kx.all
   obtain ⟨rv', w', hr, hst'⟩ := hst.push (by decide) x (by rw [List.length_map, List.length_take]; have := HLE.out; omega) 116
   have hr2 : (Builtin.append_ #[116, 116] 116 #[rv, .slice (some ⟨wr.heap.size, 0, none⟩) 1 1]).run Tryz.prog (wr.alloc (.cells #[.int .i64 x.1, .int .i64 x.2.id, .int .i64 x.2.kind, .int .i64 x.2.frm, .int .i64 x.2.dto, .int .i64 x.2.car, .int .i64 x.2.st, .int .i64 x.2.own, .int .i64 x.2.born] 119)) = .ok rv' w' := hr
   have HR := Lib.hid hr2; have HST2 := Lib.hid hst'
   have HPX := Lib.hid hpx
   have b3 : (j : Int) < (n : Int) := by omega
   have b4 : (0 : Int) ≤ (j : Int) := by omega
   clear hr hr2 hst hst' kx hpx
   go_wp2_with (at_builtin; (refine Lib.wpList_append_run _ rfl (.tmp 16) (.tmp 20) 116 116 rfl _ _ rfl rfl rv' w' HR.out ?_))
   go_roundg (n - (j + 1))
   case measure => have := HG.out; omega
   case rel => exact ⟨j + 1, _, by omega, rfl, (by have := HLE.out; have := HNN.out; rw [IntWalk.wrap64_in _ (by omega)]; rfl), rfl, by rw [List.take_add_one, HPX.out]; simp only [Option.toList, List.map_append]; exact HST2.out⟩
  ·obtain rfl : j = n := by omega
   have HST2 := Lib.hid hst; clear hst
   go_wp2_with fail
   go_ret
   refine ⟨rv, rfl, ?_, HST2.out.bel⟩
   have := HST2.out.own
   rw [HNN.out, List.take_length, HKV.out] at this
   exact this
set_option maxRecDepth 100000 in
set_option maxHeartbeats 1600000 in
theorem Keys_any (h : SAt w v l room) : Calls Tryz.prog 102 #[v] w (RPost eI w (l.map (·.1))) := by
 obtain ⟨vt, t, rfl, ht, rfl, hr, h1, h2⟩ := h
 obtain ⟨o, rfl⟩ := ht.ptr
 obtain ⟨M, hmk0, hown⟩ := made eI t.kvs.length (by omega)
 have hmk : ∀ W : World, (Instr.makeSlice 147 (.int .i64 0) (.int .i64 (t.kvs.length : Int))).run Tryz.prog W = .ok (.slice (some ⟨W.heap.size, 0, none⟩) 0 t.kvs.length) (W.alloc (.cells M 3)) := hmk0
 have CP := Lib.hid (start_lst (room := room) ht hown (by omega) _ rfl)
 have hle : t.its.length ≤ 70000 := by have := t.kvs_length; omega
 have HLE := Lib.hid hle
 have hkv : t.its.map (·.2) = t.kvs := rfl
 have HKV := Lib.hid hkv
 clear ht hown hmk0 hr hle hkv h1 h2
 generalize t.kvs.length = N at *
 generalize t.kvs = kk at *
 generalize t.its = ps at *
 go_enter Tryz.func102, Tryz.ntmps102
 go_wp2_with fail
 refine CP.out.mono ?_
 rintro e w2 ⟨sv, rfl, hst⟩
 obtain ⟨O, cap, rfl⟩ := hst.len
 generalize ((w.alloc (.cells #[.pointer o, .int .i64 (N : Int), .int .i64 (room : Int)] 34)).alloc (.cells M eI.e)).heap.size = B at *
 have HST := Lib.hid hst; clear hst CP hmk
 obtain ⟨n, hn⟩ : ∃ n, n = ps.length := ⟨_, rfl⟩
 rw [← hn] at HST ⊢
 have HNN := Lib.hid hn; clear hn
 go_wp2_with fail
 go_loopg [12, 3] n (fun gh s12 s3 wx => ∃ (j : Nat) (rv : Value), j ≤ n ∧ gh = n - j ∧ s12 = .int .i64 (j : Int) ∧ rv = s3 ∧ LSt eI w wx B (.slice O n cap) rv ps ((ps.take j).map (·.2.1)))
 case atStart => exact ⟨0, _, Nat.zero_le _, rfl, rfl, rfl, HST.out⟩
 case round =>
  obtain ⟨j, rv, hj, hg, rfl, rfl, hst⟩ := hrel
  have HG := Lib.hid hg; clear hg HST
  by_cases hlt : j < n
  ·obtain ⟨g, cap', p, x, hsv, hpx, k0, kx⟩ := hst.cell (j := j) (by rw [← HNN.out]; exact hlt)
   rw [← HNN.out] at hsv
   injection hsv with e1 _ e3
   subst e1; subst e3
   have q0 := kx.c0
   obtain ⟨rv', w', hr, hst'⟩ := hst.push (by decide) x.1 (by rw [List.length_map, List.length_take]; have := HLE.out; omega) 147
   have hr2 : (Builtin.append_ #[147, 147] 147 #[rv, .slice (some ⟨wr.heap.size, 0, none⟩) 1 1]).run Tryz.prog (wr.alloc (.cells #[.int .i64 x.1] 3)) = .ok rv' w' := hr
   have HR := Lib.hid hr2; have HST2 := Lib.hid hst'
   have HPX := Lib.hid hpx
   have b3 : (j : Int) < (n : Int) := by omega
   have b4 : (0 : Int) ≤ (j : Int) := by omega
   clear hr hr2 hst hst' kx hpx
   go_wp2_with (at_builtin; (refine Lib.wpList_append_run _ rfl (.tmp 16) (.tmp 21) 147 147 rfl _ _ rfl rfl rv' w' HR.out ?_))
   go_roundg (n - (j + 1))
   case measure => have := HG.out; omega
   case rel => exact ⟨j + 1, _, by omega, rfl, (by have := HLE.out; have := HNN.out; rw [IntWalk.wrap64_in _ (by omega)]; rfl), rfl, by rw [List.take_add_one, HPX.out]; simp only [Option.toList, List.map_append]; exact HST2.out⟩
  ·obtain rfl : j = n := by omega
   have HST2 := Lib.hid hst; clear hst
   go_wp2_with fail
   go_ret
   refine ⟨rv, rfl, ?_, HST2.out.bel⟩
   have := HST2.out.own
   rw [HNN.out, List.take_length] at this
   rw [← HKV.out, List.map_map]
   exact this
end
end Go.Proofs.YtplapoenhohliaaGreat.Sh
namespace Go.Proofs.YtplapoenhohliaaGreat
open Go.RowKit Go.Lib
set_option linter.unusedVariables false
set_option linter.unusedSimpArgs false
def assignK (c : Cfg) (x : K) (n : Int) : K × Int := if x.st = 1 then (if isB c 1 n = true ∧ (x.kind = 3 → x.car = n) then ({ x with st := 2, car := n }, 0) else (zk, 1)) else (zk, 7)
def leftK (x : K) (n : Int) : K := if x.st = 3 then kfree { x with frm := n, st := 1 } else kfree { x with st := 1 }
def leaveK (c : Cfg) (x : K) (n : Int) : K × Int := if x.st = 2 ∨ x.st = 3 then (if isB c 0 n = true then (if x.st = 3 ∧ x.dto = n then ({ x with st := 4 }, 0) else (leftK x n, 0)) else (zk, 1)) else (zk, 7)
theorem assign_st {c : Cfg} {x : K} {n : Int} (h : x.st ≠ 1) : assignK c x n = (zk, 7) := if_neg h
theorem assign_no {c : Cfg} {x : K} {n : Int} (h : x.st = 1) (h2 : ¬ (isB c 1 n = true ∧ (x.kind = 3 → x.car = n))) : assignK c x n = (zk, 1) := by
 unfold assignK; rw [if_pos h, if_neg h2]
theorem assign_yes {c : Cfg} {x : K} {n : Int} (h : x.st = 1) (h2 : isB c 1 n = true) (h3 : x.kind = 3 → x.car = n) : assignK c x n = ({ x with st := 2, car := n }, 0) := by
 unfold assignK; rw [if_pos h, if_pos ⟨h2, h3⟩]
theorem leave_st {c : Cfg} {x : K} {n : Int} (h : ¬ (x.st = 2 ∨ x.st = 3)) : leaveK c x n = (zk, 7) := if_neg h
theorem leave_no {c : Cfg} {x : K} {n : Int} (h : x.st = 2 ∨ x.st = 3) (h2 : isB c 0 n = false) : leaveK c x n = (zk, 1) := by
 unfold leaveK; rw [if_pos h, if_neg (by rw [h2]; decide)]
theorem leave_there {c : Cfg} {x : K} {n : Int} (h : x.st = 3) (h2 : isB c 0 n = true) (h3 : x.dto = n) : leaveK c x n = serveK x := by
 unfold leaveK serveK; rw [if_pos (.inr h), if_pos h2, if_pos ⟨h, h3⟩, if_pos (.inl h)]
theorem leave_rode {c : Cfg} {x : K} {n : Int} (h : x.st = 3) (h2 : isB c 0 n = true) (h3 : x.dto ≠ n) : leaveK c x n = (kfree { x with frm := n, st := 1 }, 0) := by
 unfold leaveK leftK; rw [if_pos (.inr h), if_pos h2, if_neg (fun e => h3 e.2), if_pos h]
theorem leave_waits {c : Cfg} {x : K} {n : Int} (h : x.st = 2) (h2 : isB c 0 n = true) : leaveK c x n = (kfree { x with st := 1 }, 0) := by
 have h3 : x.st ≠ 3 := by omega
 unfold leaveK leftK; rw [if_pos (.inl h), if_pos h2, if_neg (fun e => h3 e.1), if_neg h3]
structure Thr (w W : World) (g p q : Nat) (c : Cfg) (x : K) : Prop where
 cat : CAt W g c
 two : Two w W p q x
 far : g ≠ p
theorem Thr.new (w : World) (c : Cfg) (x : K) : Thr w (((w.alloc (.cells c.cells 24)).alloc (.cells x.cells 46)).alloc (.cells Z8 46)) w.heap.size (w.heap.size + 1) (w.heap.size + 1 + 1) c x := by
 have hs : (w.alloc (.cells c.cells 24)).heap.size = w.heap.size + 1 := by simp
 have h := Two.new (w.alloc (.cells c.cells 24)) x
 rw [hs] at h
 refine ⟨((CAt.new w c).step (below_new _ _)).step (below_new _ _), ⟨(below_new w _).trans (h.bel.mono (by rw [hs]; omega)), ⟨by omega, by omega⟩, h.ne, h.at_, h.ans⟩, by omega⟩
theorem Thr.step {w W W' : World} {g p q : Nat} {c : Cfg} {x : K} (h : Thr w W g p q c x) (hb : Below W.heap.size W W') : Thr w W' g p q c x := ⟨h.cat.step hb, h.two.step hb, h.far⟩
set_option maxRecDepth 100000 in
set_option maxHeartbeats 1000000 in
theorem assign_any (c : Cfg) (x : K) (n : Int) (w : World) : Calls Tryz.prog 112 #[c.V, x.V, .int .i64 n] w (Ans w (assignK c x n)) := by
 have HT := Lib.hid (Thr.new w c x)
 have CB := Lib.hid (fun W => car_any c n W)
 by_cases h1 : x.st = 1
 ·have d1 : decide (x.st = 1) = true := (by simpa using h1); have n1 : (x.st != 1) = false := (by simpa using h1); have q1 : (x.st == 1) = true := (by simpa using h1)
  cases h2 : isB c 1 n
  ·rw [h2] at CB
   have HR : Hid (_ = (zk, (1 : Int))) := Lib.hid (show assignK c x n = _ from assign_no h1 (fun e => by rw [h2] at e; exact absurd e.1 (by decide)))
   go_enter Tryz.func112, Tryz.ntmps112
   go_upto_region 1 with fail
   obtain ⟨W, hW⟩ : ∃ W, ((w.alloc (.cells c.cells 24)).alloc (.cells x.cells 46)).alloc (.cells Z8 46) = W := ⟨_, rfl⟩
   rw [hW] at HT ⊢; clear hW
   generalize w.heap.size + 1 + 1 = q at HT ⊢
   generalize w.heap.size + 1 = p at HT ⊢
   generalize w.heap.size = g at HT ⊢
   have k5 := HT.out.two.at_.get5
   have HC := Lib.hid HT.out.cat
   go_wp2_with ((with_reducible apply wpList_load_cat (h := HC.out)); exact rfl; exact rfl; exact rfl)
   refine (CB.out _).mono ?_
   rintro e w1 ⟨rfl, hb⟩
   have H1 := Lib.hid (HT.out.step hb).two; have k1 := H1.out.at_.get1; have k3 := H1.out.at_.get3; have k4 := H1.out.at_.get4; have k5b := H1.out.at_.get5
   clear HT HC hb k5
   go_upto_region 4 with fail
   obtain ⟨z, hz⟩ := H1.out.ans
   have HZ := Lib.hid hz; clear hz
   go_wp2_with ((with_reducible apply wpList_store_kat (c := zk) (hq := HZ.out)); exact rfl; exact rfl; exact rfl; exact rfl)
   exact bodyPost_ret (results_pair Tryz.results112 rfl rfl (H1.out.out zk).1) rfl (H1.out.fin HR.out)
  ·rw [h2] at CB
   by_cases h3 : x.kind = 3
   ·have d3 : decide (x.kind = 3) = true := (by simpa using h3); have n3 : (x.kind != 3) = false := (by simpa using h3); have q3 : (x.kind == 3) = true := (by simpa using h3)
    by_cases h4 : x.car = n
    ·have d4 : decide (x.car = n) = true := (by simpa using h4); have n4 : (x.car != n) = false := (by simpa using h4); have q4 : (x.car == n) = true := (by simpa using h4)
     have HR := Lib.hid (assign_yes h1 h2 (fun _ => h4))
     go_enter Tryz.func112, Tryz.ntmps112
     go_upto_region 1 with fail
     obtain ⟨W, hW⟩ : ∃ W, ((w.alloc (.cells c.cells 24)).alloc (.cells x.cells 46)).alloc (.cells Z8 46) = W := ⟨_, rfl⟩
     rw [hW] at HT ⊢; clear hW
     generalize w.heap.size + 1 + 1 = q at HT ⊢
     generalize w.heap.size + 1 = p at HT ⊢
     generalize w.heap.size = g at HT ⊢
     have k5 := HT.out.two.at_.get5
     have HC := Lib.hid HT.out.cat
     go_wp2_with ((with_reducible apply wpList_load_cat (h := HC.out)); exact rfl; exact rfl; exact rfl)
     refine (CB.out _).mono ?_
     rintro e w1 ⟨rfl, hb⟩
     have H1 := Lib.hid (HT.out.step hb).two; have k1 := H1.out.at_.get1; have k3 := H1.out.at_.get3; have k4 := H1.out.at_.get4; have k5b := H1.out.at_.get5
     clear HT HC hb k5
     go_upto_region 5 with fail
     have f5 := At.frozen H1.out.at_ 5
     have H2 := Lib.hid (H1.out.set5 2)
     have k4b := H2.out.at_.get4; have f4b := At.frozen H2.out.at_ 4
     have H3 := Lib.hid (H2.out.set4 n); clear H1 H2
     generalize hd : ({ x with st := 2, car := n } : K) = d at H3 HR
     have HA := Lib.hid H3.out.at_
     obtain ⟨z, hz⟩ := H3.out.ans
     have HZ := Lib.hid hz; clear hz hd
     go_wp2_with (first | ((with_reducible apply wpList_load_kat (h := HA.out)); exact rfl; exact rfl; exact rfl) | ((with_reducible apply wpList_store_kat (c := d) (hq := HZ.out)); exact rfl; exact rfl; exact rfl; exact rfl))
     exact bodyPost_ret (results_pair Tryz.results112 rfl rfl (H3.out.out d).1) rfl (H3.out.fin HR.out)
    ·have d4 : decide (x.car = n) = false := (by simpa using h4); have n4 : (x.car != n) = true := (by simpa using h4); have q4 : (x.car == n) = false := (by simpa using h4)
     have HR : Hid (_ = (zk, (1 : Int))) := Lib.hid (show assignK c x n = _ from assign_no h1 (fun e => h4 (e.2 h3)))
     go_enter Tryz.func112, Tryz.ntmps112
     go_upto_region 1 with fail
     obtain ⟨W, hW⟩ : ∃ W, ((w.alloc (.cells c.cells 24)).alloc (.cells x.cells 46)).alloc (.cells Z8 46) = W := ⟨_, rfl⟩
     rw [hW] at HT ⊢; clear hW
     generalize w.heap.size + 1 + 1 = q at HT ⊢
     generalize w.heap.size + 1 = p at HT ⊢
     generalize w.heap.size = g at HT ⊢
     have k5 := HT.out.two.at_.get5
     have HC := Lib.hid HT.out.cat
     go_wp2_with ((with_reducible apply wpList_load_cat (h := HC.out)); exact rfl; exact rfl; exact rfl)
     refine (CB.out _).mono ?_
     rintro e w1 ⟨rfl, hb⟩
     have H1 := Lib.hid (HT.out.step hb).two; have k1 := H1.out.at_.get1; have k3 := H1.out.at_.get3; have k4 := H1.out.at_.get4; have k5b := H1.out.at_.get5
     clear HT HC hb k5
     go_upto_region 4 with fail
     obtain ⟨z, hz⟩ := H1.out.ans
     have HZ := Lib.hid hz; clear hz
     go_wp2_with ((with_reducible apply wpList_store_kat (c := zk) (hq := HZ.out)); exact rfl; exact rfl; exact rfl; exact rfl)
     exact bodyPost_ret (results_pair Tryz.results112 rfl rfl (H1.out.out zk).1) rfl (H1.out.fin HR.out)
   ·have d3 : decide (x.kind = 3) = false := (by simpa using h3); have n3 : (x.kind != 3) = true := (by simpa using h3); have q3 : (x.kind == 3) = false := (by simpa using h3)
    have HR := Lib.hid (assign_yes h1 h2 (fun e => absurd e h3))
    go_enter Tryz.func112, Tryz.ntmps112
    go_upto_region 1 with fail
    obtain ⟨W, hW⟩ : ∃ W, ((w.alloc (.cells c.cells 24)).alloc (.cells x.cells 46)).alloc (.cells Z8 46) = W := ⟨_, rfl⟩
    rw [hW] at HT ⊢; clear hW
    generalize w.heap.size + 1 + 1 = q at HT ⊢
    generalize w.heap.size + 1 = p at HT ⊢
    generalize w.heap.size = g at HT ⊢
    have k5 := HT.out.two.at_.get5
    have HC := Lib.hid HT.out.cat
    go_wp2_with ((with_reducible apply wpList_load_cat (h := HC.out)); exact rfl; exact rfl; exact rfl)
    refine (CB.out _).mono ?_
    rintro e w1 ⟨rfl, hb⟩
    have H1 := Lib.hid (HT.out.step hb).two; have k1 := H1.out.at_.get1; have k3 := H1.out.at_.get3; have k4 := H1.out.at_.get4; have k5b := H1.out.at_.get5
    clear HT HC hb k5
    go_upto_region 5 with fail
    have f5 := At.frozen H1.out.at_ 5
    have H2 := Lib.hid (H1.out.set5 2)
    have k4b := H2.out.at_.get4; have f4b := At.frozen H2.out.at_ 4
    have H3 := Lib.hid (H2.out.set4 n); clear H1 H2
    generalize hd : ({ x with st := 2, car := n } : K) = d at H3 HR
    have HA := Lib.hid H3.out.at_
    obtain ⟨z, hz⟩ := H3.out.ans
    have HZ := Lib.hid hz; clear hz hd
    go_wp2_with (first | ((with_reducible apply wpList_load_kat (h := HA.out)); exact rfl; exact rfl; exact rfl) | ((with_reducible apply wpList_store_kat (c := d) (hq := HZ.out)); exact rfl; exact rfl; exact rfl; exact rfl))
    exact bodyPost_ret (results_pair Tryz.results112 rfl rfl (H3.out.out d).1) rfl (H3.out.fin HR.out)
 ·have d1 : decide (x.st = 1) = false := (by simpa using h1); have n1 : (x.st != 1) = true := (by simpa using h1); have q1 : (x.st == 1) = false := (by simpa using h1)
  have HR : Hid (_ = (zk, (7 : Int))) := Lib.hid (show assignK c x n = _ from assign_st h1)
  go_enter Tryz.func112, Tryz.ntmps112
  go_upto_region 1 with fail
  obtain ⟨W, hW⟩ : ∃ W, ((w.alloc (.cells c.cells 24)).alloc (.cells x.cells 46)).alloc (.cells Z8 46) = W := ⟨_, rfl⟩
  rw [hW] at HT ⊢; clear hW
  generalize w.heap.size + 1 + 1 = q at HT ⊢
  generalize w.heap.size + 1 = p at HT ⊢
  generalize w.heap.size = g at HT ⊢
  have k5 := HT.out.two.at_.get5
  have HC := Lib.hid HT.out.cat
  obtain ⟨z, hz⟩ := HT.out.two.ans
  have HZ := Lib.hid hz; clear hz
  go_wp2_with ((with_reducible apply wpList_store_kat (c := zk) (hq := HZ.out)); exact rfl; exact rfl; exact rfl; exact rfl)
  exact bodyPost_ret (results_pair Tryz.results112 rfl rfl (HT.out.two.out zk).1) rfl (HT.out.two.fin HR.out)
end Go.Proofs.YtplapoenhohliaaGreat
namespace Go.Proofs.YtplapoenhohliaaGreat
open Go.RowKit Go.Lib
set_option linter.unusedVariables false
set_option linter.unusedSimpArgs false
set_option maxRecDepth 100000 in
set_option maxHeartbeats 1000000 in
theorem leave_any (c : Cfg) (x : K) (n : Int) (w : World) : Calls Tryz.prog 114 #[c.V, x.V, .int .i64 n] w (Ans w (leaveK c x n)) := by
 have HT := Lib.hid (Thr.new w c x)
 have CB := Lib.hid (fun W => floor_any c n W)
 by_cases h2 : x.st = 2
 ·have d2 : decide (x.st = 2) = true := (by simpa using h2); have n2 : (x.st != 2) = false := (by simpa using h2); have q2 : (x.st == 2) = true := (by simpa using h2)
  have h3 : x.st ≠ 3 := by omega
  have d3 : decide (x.st = 3) = false := (by simpa using h3); have n3 : (x.st != 3) = true := (by simpa using h3); have q3 : (x.st == 3) = false := (by simpa using h3)
  cases h4 : isB c 0 n
  ·rw [h4] at CB
   have HR : Hid (_ = (zk, (1 : Int))) := Lib.hid (show leaveK c x n = _ from leave_no (.inl h2) h4)
   go_enter Tryz.func114, Tryz.ntmps114
   go_upto_region 1 with fail
   obtain ⟨W, hW⟩ : ∃ W, ((w.alloc (.cells c.cells 24)).alloc (.cells x.cells 46)).alloc (.cells Z8 46) = W := ⟨_, rfl⟩
   rw [hW] at HT ⊢; clear hW
   generalize w.heap.size + 1 + 1 = q at HT ⊢
   generalize w.heap.size + 1 = p at HT ⊢
   generalize w.heap.size = g at HT ⊢
   have k5 := HT.out.two.at_.get5
   have HC := Lib.hid HT.out.cat
   go_wp2_with ((with_reducible apply wpList_load_cat (h := HC.out)); exact rfl; exact rfl; exact rfl)
   refine (CB.out _).mono ?_
   rintro e w1 ⟨rfl, hb⟩
   have H1 := Lib.hid (HT.out.step hb).two; have k1 := H1.out.at_.get1; have k3 := H1.out.at_.get3; have k4 := H1.out.at_.get4; have k5b := H1.out.at_.get5
   clear HT HC hb k5
   go_upto_region 4 with fail
   obtain ⟨z, hz⟩ := H1.out.ans
   have HZ := Lib.hid hz; clear hz
   go_wp2_with ((with_reducible apply wpList_store_kat (c := zk) (hq := HZ.out)); exact rfl; exact rfl; exact rfl; exact rfl)
   exact bodyPost_ret (results_pair Tryz.results114 rfl rfl (H1.out.out zk).1) rfl (H1.out.fin HR.out)
  ·rw [h4] at CB
   have HR := Lib.hid (leave_waits h2 h4)
   go_enter Tryz.func114, Tryz.ntmps114
   go_upto_region 1 with fail
   obtain ⟨W, hW⟩ : ∃ W, ((w.alloc (.cells c.cells 24)).alloc (.cells x.cells 46)).alloc (.cells Z8 46) = W := ⟨_, rfl⟩
   rw [hW] at HT ⊢; clear hW
   generalize w.heap.size + 1 + 1 = q at HT ⊢
   generalize w.heap.size + 1 = p at HT ⊢
   generalize w.heap.size = g at HT ⊢
   have k5 := HT.out.two.at_.get5
   have HC := Lib.hid HT.out.cat
   go_wp2_with ((with_reducible apply wpList_load_cat (h := HC.out)); exact rfl; exact rfl; exact rfl)
   refine (CB.out _).mono ?_
   rintro e w1 ⟨rfl, hb⟩
   have H1 := Lib.hid (HT.out.step hb).two; have k1 := H1.out.at_.get1; have k3 := H1.out.at_.get3; have k4 := H1.out.at_.get4; have k5b := H1.out.at_.get5
   clear HT HC hb k5
   go_upto_region 9 with fail
   have f5 := At.frozen H1.out.at_ 5
   have H3 := Lib.hid (H1.out.set5 1); clear H1
   generalize hd : ({ x with st := 1 } : K) = d at H3 HR
   have HA := Lib.hid H3.out.at_
   have CF := Lib.hid (fun W => free_any d W)
   generalize kfree d = d2 at CF HR
   clear CB hd
   go_wp2_with ((with_reducible apply wpList_load_kat (h := HA.out)); exact rfl; exact rfl; exact rfl)
   refine (CF.out _).mono ?_
   rintro e w2 ⟨rfl, hb⟩
   have H4 := Lib.hid (H3.out.step hb); clear hb H3 HA
   obtain ⟨z, hz⟩ := H4.out.ans
   have HZ := Lib.hid hz; clear hz
   go_wp2_with ((with_reducible apply wpList_store_kat (c := d2) (hq := HZ.out)); exact rfl; exact rfl; exact rfl; exact rfl)
   exact bodyPost_ret (results_pair Tryz.results114 rfl rfl (H4.out.out d2).1) rfl (H4.out.fin HR.out)
 ·have d2 : decide (x.st = 2) = false := (by simpa using h2); have n2 : (x.st != 2) = true := (by simpa using h2); have q2 : (x.st == 2) = false := (by simpa using h2)
  by_cases h3 : x.st = 3
  ·have d3 : decide (x.st = 3) = true := (by simpa using h3); have n3 : (x.st != 3) = false := (by simpa using h3); have q3 : (x.st == 3) = true := (by simpa using h3)
   cases h4 : isB c 0 n
   ·rw [h4] at CB
    have HR : Hid (_ = (zk, (1 : Int))) := Lib.hid (show leaveK c x n = _ from leave_no (.inr h3) h4)
    go_enter Tryz.func114, Tryz.ntmps114
    go_upto_region 1 with fail
    obtain ⟨W, hW⟩ : ∃ W, ((w.alloc (.cells c.cells 24)).alloc (.cells x.cells 46)).alloc (.cells Z8 46) = W := ⟨_, rfl⟩
    rw [hW] at HT ⊢; clear hW
    generalize w.heap.size + 1 + 1 = q at HT ⊢
    generalize w.heap.size + 1 = p at HT ⊢
    generalize w.heap.size = g at HT ⊢
    have k5 := HT.out.two.at_.get5
    have HC := Lib.hid HT.out.cat
    go_wp2_with ((with_reducible apply wpList_load_cat (h := HC.out)); exact rfl; exact rfl; exact rfl)
    refine (CB.out _).mono ?_
    rintro e w1 ⟨rfl, hb⟩
    have H1 := Lib.hid (HT.out.step hb).two; have k1 := H1.out.at_.get1; have k3 := H1.out.at_.get3; have k4 := H1.out.at_.get4; have k5b := H1.out.at_.get5
    clear HT HC hb k5
    go_upto_region 4 with fail
    obtain ⟨z, hz⟩ := H1.out.ans
    have HZ := Lib.hid hz; clear hz
    go_wp2_with ((with_reducible apply wpList_store_kat (c := zk) (hq := HZ.out)); exact rfl; exact rfl; exact rfl; exact rfl)
    exact bodyPost_ret (results_pair Tryz.results114 rfl rfl (H1.out.out zk).1) rfl (H1.out.fin HR.out)
   ·rw [h4] at CB
    by_cases h5 : x.dto = n
    ·have d5 : decide (x.dto = n) = true := (by simpa using h5); have n5 : (x.dto != n) = false := (by simpa using h5); have q5 : (x.dto == n) = true := (by simpa using h5)
     have HR := Lib.hid (leave_there h3 h4 h5)
     go_enter Tryz.func114, Tryz.ntmps114
     go_upto_region 1 with fail
     obtain ⟨W, hW⟩ : ∃ W, ((w.alloc (.cells c.cells 24)).alloc (.cells x.cells 46)).alloc (.cells Z8 46) = W := ⟨_, rfl⟩
     rw [hW] at HT ⊢; clear hW
     generalize w.heap.size + 1 + 1 = q at HT ⊢
     generalize w.heap.size + 1 = p at HT ⊢
     generalize w.heap.size = g at HT ⊢
     have k5 := HT.out.two.at_.get5
     have HC := Lib.hid HT.out.cat
     go_wp2_with ((with_reducible apply wpList_load_cat (h := HC.out)); exact rfl; exact rfl; exact rfl)
     refine (CB.out _).mono ?_
     rintro e w1 ⟨rfl, hb⟩
     have H1 := Lib.hid (HT.out.step hb).two; have k1 := H1.out.at_.get1; have k3 := H1.out.at_.get3; have k4 := H1.out.at_.get4; have k5b := H1.out.at_.get5
     clear HT HC hb k5
     go_upto_region 6 with fail
     have HA := Lib.hid H1.out.at_
     have CF := Lib.hid (fun W => serve_any x W)
     generalize serveK x = r at CF HR
     clear CB
     go_wp2_with ((with_reducible apply wpList_load_kat (h := HA.out)); exact rfl; exact rfl; exact rfl)
     refine (CF.out _).mono ?_
     rintro e w2 ⟨rfl, hb⟩
     have H4 := Lib.hid (H1.out.step hb); clear hb H1 HA
     obtain ⟨d, m⟩ := r
     obtain ⟨z, hz⟩ := H4.out.ans
     have HZ := Lib.hid hz; clear hz
     go_wp2_with ((with_reducible apply wpList_store_kat (c := d) (hq := HZ.out)); exact rfl; exact rfl; exact rfl; exact rfl)
     exact bodyPost_ret (results_pair Tryz.results114 rfl rfl (H4.out.out d).1) rfl (H4.out.fin HR.out)
    ·have d5 : decide (x.dto = n) = false := (by simpa using h5); have n5 : (x.dto != n) = true := (by simpa using h5); have q5 : (x.dto == n) = false := (by simpa using h5)
     have HR := Lib.hid (leave_rode h3 h4 h5)
     go_enter Tryz.func114, Tryz.ntmps114
     go_upto_region 1 with fail
     obtain ⟨W, hW⟩ : ∃ W, ((w.alloc (.cells c.cells 24)).alloc (.cells x.cells 46)).alloc (.cells Z8 46) = W := ⟨_, rfl⟩
     rw [hW] at HT ⊢; clear hW
     generalize w.heap.size + 1 + 1 = q at HT ⊢
     generalize w.heap.size + 1 = p at HT ⊢
     generalize w.heap.size = g at HT ⊢
     have k5 := HT.out.two.at_.get5
     have HC := Lib.hid HT.out.cat
     go_wp2_with ((with_reducible apply wpList_load_cat (h := HC.out)); exact rfl; exact rfl; exact rfl)
     refine (CB.out _).mono ?_
     rintro e w1 ⟨rfl, hb⟩
     have H1 := Lib.hid (HT.out.step hb).two; have k1 := H1.out.at_.get1; have k3 := H1.out.at_.get3; have k4 := H1.out.at_.get4; have k5b := H1.out.at_.get5
     clear HT HC hb k5
     go_upto_region 8 with fail
     have k2 := H1.out.at_.get2; have f2 := At.frozen H1.out.at_ 2
     have H2 := Lib.hid (H1.out.set2 n)
     have k5b := H2.out.at_.get5; have f5b := At.frozen H2.out.at_ 5
     have H3 := Lib.hid (H2.out.set5 1); clear H1 H2
     generalize hd : ({ x with frm := n, st := 1 } : K) = d at H3 HR
     have HA := Lib.hid H3.out.at_
     have CF := Lib.hid (fun W => free_any d W)
     generalize kfree d = d2 at CF HR
     clear CB hd
     go_wp2_with ((with_reducible apply wpList_load_kat (h := HA.out)); exact rfl; exact rfl; exact rfl)
     refine (CF.out _).mono ?_
     rintro e w2 ⟨rfl, hb⟩
     have H4 := Lib.hid (H3.out.step hb); clear hb H3 HA
     obtain ⟨z, hz⟩ := H4.out.ans
     have HZ := Lib.hid hz; clear hz
     go_wp2_with ((with_reducible apply wpList_store_kat (c := d2) (hq := HZ.out)); exact rfl; exact rfl; exact rfl; exact rfl)
     exact bodyPost_ret (results_pair Tryz.results114 rfl rfl (H4.out.out d2).1) rfl (H4.out.fin HR.out)
  ·have d3 : decide (x.st = 3) = false := (by simpa using h3); have n3 : (x.st != 3) = true := (by simpa using h3); have q3 : (x.st == 3) = false := (by simpa using h3)
   have HR : Hid (_ = (zk, (7 : Int))) := Lib.hid (show leaveK c x n = _ from leave_st (fun h => h.elim h2 h3))
   go_enter Tryz.func114, Tryz.ntmps114
   go_upto_region 1 with fail
   obtain ⟨W, hW⟩ : ∃ W, ((w.alloc (.cells c.cells 24)).alloc (.cells x.cells 46)).alloc (.cells Z8 46) = W := ⟨_, rfl⟩
   rw [hW] at HT ⊢; clear hW
   generalize w.heap.size + 1 + 1 = q at HT ⊢
   generalize w.heap.size + 1 = p at HT ⊢
   generalize w.heap.size = g at HT ⊢
   have k5 := HT.out.two.at_.get5
   have HC := Lib.hid HT.out.cat
   obtain ⟨z, hz⟩ := HT.out.two.ans
   have HZ := Lib.hid hz; clear hz
   go_wp2_with ((with_reducible apply wpList_store_kat (c := zk) (hq := HZ.out)); exact rfl; exact rfl; exact rfl; exact rfl)
   exact bodyPost_ret (results_pair Tryz.results114 rfl rfl (HT.out.two.out zk).1) rfl (HT.out.two.fin HR.out)
end Go.Proofs.YtplapoenhohliaaGreat
