/- The contracts of Without, List and Keys. -/
import Derived.Test.YtlmdhkaplemjpaaGreatShA
namespace Go.Proofs.YtlmdhkaplemjpaaGreat.Sh
open Go.RowKit Go.Lib Plain
set_option linter.unusedVariables false

section
variable {w w' : World} {v : Value} {l : List KV} {room : Nat}
set_option maxRecDepth 100000 in
set_option maxHeartbeats 1600000 in
theorem wo_none {o : Option Addr} {k : Int} {N : Nat} {t : T} (ht : TAt w w.heap.size (.pointer o) t) (hr : Rise t.kvs) (hg : get k t.kvs = none) :
    Calls Tryz.prog 71 #[.agg #[.pointer o, .int .i64 (N : Int), .int .i64 (room : Int)], .int .i64 k] w fun e w' => e = .returned (.agg #[.pointer o, .int .i64 (N : Int), .int .i64 (room : Int)]) ∧ Below w.heap.size w w' := by
  have hb : Below w.heap.size w ((w.alloc (.cells #[.pointer o, .int .i64 (N : Int), .int .i64 (room : Int)] 34)).alloc (.cells #[.pointer none, .int .i64 0, .int .i64 0] 34)) := ((Below.refl _ _).alloc (Nat.le_refl _) _).alloc (by simp) _
  have cf := find_any k (ht.step hb) hr
  rw [hg] at cf
  have CF := Lib.hid cf
  have HB := Lib.hid hb; clear hb ht hr hg cf
  go_enter Tryz.func71, Tryz.ntmps71
  go_wp2_with fail
  refine CF.out.mono ?_
  rintro e w2 ⟨rfl, ⟨_, rfl⟩ | ⟨g, p, vl, vr, hh, x, h0, _⟩⟩
  · go_wp2_with fail
    exact bodyPost_ret (v := .agg #[.pointer o, .int .i64 (N : Int), .int .i64 (room : Int)]) (by simp [results, Tryz.results71, go_sem]) rfl ⟨rfl, ((Below.refl _ _).alloc (Nat.le_refl _) _).alloc (by simp) _⟩
  · cases h0
/-- the world in which Without goes on -/
abbrev delW (w : World) (o : Option Addr) (N room : Nat) : World :=
  (w.alloc (.cells #[.pointer o, .int .i64 (N : Int), .int .i64 (room : Int)] 34)).alloc (.cells #[.pointer none, .int .i64 0, .int .i64 0] 34)
set_option maxRecDepth 100000 in
set_option maxHeartbeats 1600000 in
theorem wo_some {o : Option Addr} {k : Int} {y : K} {N M : Nat} {t : T} {L : List KV} (ht : TAt w w.heap.size (.pointer o) t) (hr : Rise t.kvs) (hg : get k t.kvs = some y) (hM : N = M + 1) (hN : N ≤ 1000000)
    (cw : Calls Tryz.prog 102 #[.pointer o, .int .i64 k] (delW w o N room) (WPost (delW w o N room) L)) :
    Calls Tryz.prog 71 #[.agg #[.pointer o, .int .i64 (N : Int), .int .i64 (room : Int)], .int .i64 k] w fun e w' => ∃ o' t', e = .returned (.agg #[.pointer o', .int .i64 (M : Int), .int .i64 (room : Int)]) ∧ TAt w' w'.heap.size (.pointer o') t' ∧ t'.kvs = L ∧ Below w.heap.size w w' := by
  have hb : Below w.heap.size w ((w.alloc (.cells #[.pointer o, .int .i64 (N : Int), .int .i64 (room : Int)] 34)).alloc (.cells #[.pointer none, .int .i64 0, .int .i64 0] 34)) := ((Below.refl _ _).alloc (Nat.le_refl _) _).alloc (by simp) _
  have cf := find_any k (ht.step hb) hr
  rw [hg] at cf
  have CF := Lib.hid cf; have CW := Lib.hid cw
  have HB := Lib.hid hb; clear hb ht hr hg cf cw
  have f2 : IntKind.i64.wrap ((N : Int) - 1) = (M : Int) := by rw [IntWalk.i64_in _ (by omega)]; omega
  clear hM hN
  go_enter Tryz.func71, Tryz.ntmps71
  go_wp2_with fail
  refine CF.out.mono ?_
  rintro e w2 ⟨rfl, ⟨h0, _⟩ | ⟨g, p, vl, vr, hh, y', _, rfl, _, _⟩⟩
  · cases h0
  · clear CF
    go_wp2_with fail
    refine CW.out.mono ?_
    rintro e w5 ⟨v5, t5, rfl, T5, k5, b5⟩
    obtain ⟨o5, rfl⟩ := T5.ptr
    have hs : w5.heap.size ≥ w.heap.size + 2 := by have := b5.size; simpa using this
    have a1 : At w5 w.heap.size 34 #[.pointer o, .int .i64 (N : Int), .int .i64 (room : Int)] := At.below ((At.new w 34 _).alloc _) b5 (by simp; omega)
    have a2 : At w5 (w.heap.size + 1) 34 #[.pointer none, .int .i64 0, .int .i64 0] := by
      have := (At.new (w.alloc (.cells #[.pointer o, .int .i64 (N : Int), .int .i64 (room : Int)] 34)) 34 #[.pointer none, .int .i64 0, .int .i64 0])
      have e : (w.alloc (.cells #[.pointer o, .int .i64 (N : Int), .int .i64 (room : Int)] 34)).heap.size = w.heap.size + 1 := by simp
      rw [e] at this
      exact this.below b5 (by simp)
    have c0 : w5.cell? ⟨w.heap.size, 0, none⟩ = some (.pointer o) := by rw [a1.cell]; rfl
    have c1 : w5.cell? ⟨w.heap.size, 1, none⟩ = some (.int .i64 (N : Int)) := by rw [a1.cell]; rfl
    have c2 : w5.cell? ⟨w.heap.size, 2, none⟩ = some (.int .i64 (room : Int)) := by rw [a1.cell]; rfl
    have z0 := a1.frozen 0; have z1 := a1.frozen 1
    have d0 : w5.cell? ⟨w.heap.size + 1, 0, none⟩ = some (.pointer none) := by rw [a2.cell]; rfl
    have d1 : w5.cell? ⟨w.heap.size + 1, 1, none⟩ = some (.int .i64 0) := by rw [a2.cell]; rfl
    have d2 : w5.cell? ⟨w.heap.size + 1, 2, none⟩ = some (.int .i64 0) := by rw [a2.cell]; rfl
    have y0 := a2.frozen 0; have y1 := a2.frozen 1; have y2 := a2.frozen 2
    have hb5 : Below w.heap.size w w5 := HB.out.trans (b5.mono (by simp; omega))
    have ne : w.heap.size + 1 ≠ w.heap.size := by omega
    have a3 := (at3 a1 (.pointer o5)).1
    have a1' : At ((w5.setCell ⟨w.heap.size, 0, none⟩ (.pointer o5)).setCell ⟨w.heap.size, 1, none⟩ (.int .i64 (M : Int))) (w.heap.size + 1) 34 #[.pointer none, .int .i64 0, .int .i64 0] := (a2.far ne _).far ne _
    have hfin : TAt (((((w5.setCell ⟨w.heap.size, 0, none⟩ (.pointer o5)).setCell ⟨w.heap.size, 1, none⟩ (.int .i64 (M : Int))).setCell ⟨w.heap.size + 1, 0, none⟩ (.pointer o5)).setCell ⟨w.heap.size + 1, 1, none⟩ (.int .i64 (M : Int))).setCell ⟨w.heap.size + 1, 2, none⟩ (.int .i64 (room : Int))) w5.heap.size (.pointer o5) t5 :=
      ((T5.far a1 (by decide) (by decide)).far a3 (by decide) (by decide)).store3 a1' (by decide) (by decide)
    have hbf : Below w.heap.size w (((((w5.setCell ⟨w.heap.size, 0, none⟩ (.pointer o5)).setCell ⟨w.heap.size, 1, none⟩ (.int .i64 (M : Int))).setCell ⟨w.heap.size + 1, 0, none⟩ (.pointer o5)).setCell ⟨w.heap.size + 1, 1, none⟩ (.int .i64 (M : Int))).setCell ⟨w.heap.size + 1, 2, none⟩ (.int .i64 (room : Int))) :=
      (((((hb5.setCell (Nat.le_refl _) _).setCell (Nat.le_refl _) _).setCell (by simp) _).setCell (by simp) _).setCell (by simp) _)
    have T5' := Lib.hid hfin; have B5 := Lib.hid hbf; clear T5 b5 a1 a2 CW HB hfin hbf hb5 a1' a3
    go_wp2_with fail
    exact bodyPost_ret (v := .agg #[.pointer o5, .int .i64 (M : Int), .int .i64 (room : Int)]) (by simp [results, Tryz.results71, go_sem, *]) rfl ⟨o5, t5, rfl, by simp only [size_set]; exact T5'.out, k5, B5.out⟩
/-- Without: a key's pair -/
theorem Without_any (k : Int) (h : SAt w v l room) : Calls Tryz.prog 71 #[v, .int .i64 k] w (SPost w (del k l) room) := by
  obtain ⟨vt, t, rfl, ht, rfl, hr, h1, h2⟩ := h
  obtain ⟨o, rfl⟩ := ht.ptr
  cases hg : get k t.kvs with
  | none =>
    refine (wo_none ht hr hg).mono ?_
    rintro e w' ⟨rfl, hb⟩
    refine ⟨_, rfl, ?_, hb⟩
    rw [del_none (get_none_iff hg)]
    exact ⟨_, t, rfl, ht.step hb, rfl, hr, h1, h2⟩
  | some y =>
    have hb : Below w.heap.size w (delW w o t.kvs.length room) := ((Below.refl _ _).alloc (Nat.le_refl _) _).alloc (by simp) _
    have hpos : 0 < t.kvs.length := List.length_pos_of_mem (get_mem hg)
    have el : (del k t.kvs).length = t.kvs.length - 1 := by rw [del_length hr, hg]; rfl
    refine (wo_some (M := t.kvs.length - 1) ht hr hg (by omega) (by omega) (without_any (ht.step hb) hr (by omega))).mono ?_
    rintro e w' ⟨o', t', rfl, ht', hk, hb⟩
    refine ⟨_, rfl, ⟨_, t', by rw [el], ht', hk, hr.del, by omega, h2⟩, hb⟩
/-- what List, or Keys, answers -/
def RPost {α : Type} (E : El α) (w : World) (xs : List α) (e : Ending) (w' : World) : Prop := ∃ sv, e = .returned sv ∧ Own E w' w.heap.size sv xs ∧ Below w.heap.size w w'
theorem own_ne_t {α β : Type} {E : El α} {F : El β} {B C : Nat} {u : Value} {xs : List α} {ys : List β} (h : Own E w B v xs) (k : Own F w C u ys) (hne : E.e ≠ F.e) : ∀ g, v.ownBlock = some g → ¬ u.ownBlock = some g := fun g hg e => own_ne2 h k hne hg e
/-- the state in the loops of List and Keys -/
structure LSt {α : Type} (E : El α) (w wx : World) (B : Nat) (sv rv : Value) (ps : List (Nat × KV)) (xs : List α) : Prop where
  src : Own eP wx B sv (ps.map (·.1))
  at_ : ∀ y ∈ ps, y.1 < w.heap.size ∧ PAt wx y.1 y.2
  own : Own E wx w.heap.size rv xs
  bel : Below w.heap.size w wx
  lo : w.heap.size ≤ B
theorem LSt.push {α : Type} {E : El α} {wx : World} {B : Nat} {sv rv : Value} {ps : List (Nat × KV)} {xs : List α} (h : LSt E w wx B sv rv ps xs) (hne : eP.e ≠ E.e) (x : α) (hn : xs.length ≤ 100000) (ty : TypeId) :
    ∃ rv' w', (Builtin.append_ #[E.ts, E.ts] ty #[rv, .slice (some ⟨wx.heap.size, 0, none⟩) 1 1]).run Tryz.prog (wx.alloc (.cells (E.enc x).toArray E.e)) = .ok rv' w' ∧ LSt E w w' B sv rv' ps (xs ++ [x]) := by
  have hb : Below wx.heap.size wx (wx.alloc (.cells (E.enc x).toArray E.e)) := (Below.refl _ _).alloc (Nat.le_refl _) _
  have ho := h.own.below hb
  have hs := h.bel.size
  obtain ⟨rv', w', hr, o', c', l'⟩ := ho.push (x := x) (b := wx.heap.size) (off := 0) (cap := 1) (by simp; omega) (fun j u hu => by
    rw [(At.new wx E.e (E.enc x).toArray).cell]
    simpa using hu) (by omega) ty
  have hb2 : Below w.heap.size w w' := (h.bel.trans (hb.mono hs)).trans (c'.below' ho (by simp; omega))
  refine ⟨rv', w', hr, ⟨(h.src.below hb).chg c' (own_ne_t (h.src.below hb) ho hne), fun y hy => ?_, o', hb2, h.lo⟩⟩
  obtain ⟨h1, h2⟩ := h.at_ y hy
  exact ⟨h1, (h2.keep hb h2.lt).chg c' (fun e => by have := (ho.lt e).1; omega)⟩
end
end Go.Proofs.YtlmdhkaplemjpaaGreat.Sh
/- The contracts of List and Keys. -/
namespace Go.Proofs.YtlmdhkaplemjpaaGreat.Sh
open Go.RowKit Go.Lib Plain
set_option linter.unusedVariables false

theorem sizeP : (Tryz.prog.info? 124).map (·.size) = some 9 := by kernel_rfl
section
variable {w w' : World} {v : Value} {l : List KV} {room : Nat}
theorem LSt.cell {α : Type} {E : El α} {wx : World} {B j : Nat} {sv rv : Value} {ps : List (Nat × KV)} {xs : List α} (h : LSt E w wx B sv rv ps xs) (hj : j < ps.length) :
    ∃ g cap p x, sv = .slice (some ⟨g, 0, none⟩) ps.length cap ∧ ps[j]? = some (p, x) ∧ wx.cell? ⟨g, j, none⟩ = some (ptr p) ∧ PAt wx p x := by
  have hx : ps[j]? = some ps[j] := List.getElem?_eq_getElem hj
  rcases h.src.form with ⟨rfl, h0⟩ | ⟨g, cap, rfl, hc, _, _⟩
  · simp at h0; subst h0; simp at hj
  · obtain ⟨b, off, e, hb, k⟩ := h.src.rd.cellP (i := j) (p := ps[j].1) (by rw [List.getElem?_map, hx]; rfl)
    injection e with e
    injection e with e1 e2 e3
    subst e1; subst e2
    rw [Nat.zero_add] at k
    exact ⟨g, cap, ps[j].1, ps[j].2, by rw [List.length_map], hx, k, (h.at_ _ (List.getElem_mem hj)).2⟩
theorem LSt.len {α : Type} {E : El α} {wx : World} {B : Nat} {sv rv : Value} {ps : List (Nat × KV)} {xs : List α} (h : LSt E w wx B sv rv ps xs) : ∃ O cap, sv = .slice O ps.length cap := by
  rcases h.src.form with ⟨rfl, h0⟩ | ⟨g, cap, rfl, hc, _, _⟩
  · simp at h0; subst h0; exact ⟨_, _, rfl⟩
  · exact ⟨_, _, by rw [List.length_map]⟩
theorem LSt.drewN {α : Type} {E : El α} {wx : World} {B : Nat} {sv rv : Value} {ps : List (Nat × KV)} {xs : List α} (h : LSt E w wx B sv rv ps xs) (n : Nat) : LSt E w (wx.drewN n) B sv rv ps xs :=
  ⟨h.src, h.at_, h.own, below_drewN h.bel n, h.lo⟩
theorem start_lst {α : Type} {E : El α} {o : Option Addr} {N : Nat} {t : T} {M : Array Value} (ht : TAt w w.heap.size (.pointer o) t) (ho : ∀ (W : World) (B : Nat), B ≤ W.heap.size → Own E (W.alloc (.cells M E.e)) B (.slice (some ⟨W.heap.size, 0, none⟩) 0 N) []) (hn : t.kvs.length ≤ 70000) (W : World)
    (hW : W = (w.alloc (.cells #[.pointer o, .int .i64 (t.kvs.length : Int), .int .i64 (room : Int)] 34)).alloc (.cells M E.e)) :
    Calls Tryz.prog 75 #[.agg #[.pointer o, .int .i64 (t.kvs.length : Int), .int .i64 (room : Int)]] W fun e w' => ∃ sv, e = .returned sv ∧ LSt E w w' W.heap.size sv (.slice (some ⟨w.heap.size + 1, 0, none⟩) 0 N) t.its [] := by
  have hb : Below w.heap.size w W := by subst hW; exact ((Below.refl _ _).alloc (Nat.le_refl _) _).alloc (by simp) _
  have hown : Own E W w.heap.size (.slice (some ⟨w.heap.size + 1, 0, none⟩) 0 N) [] := by
    subst hW
    have := ho (w.alloc (.cells #[.pointer o, .int .i64 (t.kvs.length : Int), .int .i64 (room : Int)] 34)) w.heap.size (by simp)
    have e : (w.alloc (.cells #[.pointer o, .int .i64 (t.kvs.length : Int), .int .i64 (room : Int)] 34)).heap.size = w.heap.size + 1 := by simp
    rw [e] at this
    exact this
  refine (pairs_any (ht.step hb) hn).mono ?_
  rintro e w' ⟨sv, rfl, o1, b1⟩
  exact ⟨sv, rfl, o1, fun y hy => ⟨(ht.its_at y hy).1, ((ht.its_at y hy).2.step hb).step b1⟩, hown.below b1, hb.trans (b1.mono hb.size), hb.size⟩
set_option maxRecDepth 100000 in
set_option maxHeartbeats 1600000 in
/-- List: all pairs -/
theorem List_any (h : SAt w v l room) : Calls Tryz.prog 62 #[v] w (RPost eK w l) := by
  obtain ⟨vt, t, rfl, ht, rfl, hr, h1, h2⟩ := h
  obtain ⟨o, rfl⟩ := ht.ptr
  obtain ⟨M, hmk0, hown⟩ := made eK t.kvs.length (by omega)
  have hmk : ∀ W : World, (Instr.makeSlice 121 (.int .i64 0) (.int .i64 (t.kvs.length : Int))).run Tryz.prog W = .ok (.slice (some ⟨W.heap.size, 0, none⟩) 0 t.kvs.length) (W.alloc (.cells M 124)) := hmk0
  have CP := Lib.hid (start_lst (room := room) ht hown (by omega) _ rfl)
  have hle : t.its.length ≤ 70000 := by have := t.kvs_length; omega
  have HLE := Lib.hid hle
  have hkv : t.its.map (·.2) = t.kvs := rfl
  have HKV := Lib.hid hkv
  clear ht hown hmk0 hr hle hkv h1 h2
  generalize t.kvs.length = N at *
  generalize t.kvs = kk at *
  generalize t.its = ps at *
  go_enter Tryz.func62, Tryz.ntmps62
  go_wp2_with fail
  refine CP.out.mono ?_
  rintro e w2 ⟨sv, rfl, hst⟩
  obtain ⟨O, cap, rfl⟩ := hst.len
  generalize ((w.alloc (.cells #[.pointer o, .int .i64 (N : Int), .int .i64 (room : Int)] 34)).alloc (.cells M eK.e)).heap.size = B at *
  have HST := Lib.hid hst; clear hst CP hmk
  obtain ⟨n, hn⟩ : ∃ n, n = ps.length := ⟨_, rfl⟩
  rw [← hn] at HST ⊢
  have HNN := Lib.hid hn; clear hn
  go_wp2_with fail
  go_loopg [12, 3] n (fun gh s12 s3 wx => ∃ (j : Nat) (rv : Value), j ≤ n ∧ gh = n - j ∧ s12 = .int .i64 (j : Int) ∧ rv = s3 ∧ LSt eK w wx B (.slice O n cap) rv ps ((ps.take j).map (·.2)))
  case atStart => exact ⟨0, _, Nat.zero_le _, rfl, rfl, rfl, HST.out⟩
  case round =>
    obtain ⟨j, rv, hj, hg, rfl, rfl, hst⟩ := hrel
    have HG := Lib.hid hg; clear hg HST
    by_cases hlt : j < n
    · obtain ⟨g, cap', p, x, hsv, hpx, k0, kx⟩ := hst.cell (j := j) (by rw [← HNN.out]; exact hlt)
      rw [← HNN.out] at hsv
      injection hsv with e1 _ e3
      subst e1; subst e3
      have q0 := kx.c0
      obtain ⟨q1, q2, q3, q4, q5, q6, q7, q8⟩ := kx.all
      obtain ⟨rv', w', hr, hst'⟩ := hst.push (by decide) x (by rw [List.length_map, List.length_take]; have := HLE.out; omega) 121
      have hr2 : (Builtin.append_ #[121, 121] 121 #[rv, .slice (some ⟨wr.heap.size, 0, none⟩) 1 1]).run Tryz.prog (wr.alloc (.cells #[.int .i64 x.1, .int .i64 x.2.id, .int .i64 x.2.kind, .int .i64 x.2.frm, .int .i64 x.2.dto, .int .i64 x.2.car, .int .i64 x.2.st, .int .i64 x.2.own, .int .i64 x.2.born] 124)) = .ok rv' w' := hr
      have HR := Lib.hid hr2; have HST2 := Lib.hid hst'
      have HPX := Lib.hid hpx
      have b3 : (j : Int) < (n : Int) := by omega
      have b4 : (0 : Int) ≤ (j : Int) := by omega
      clear hr hr2 hst hst' kx hpx
      go_wp2_with (at_builtin; (refine Lib.wpList_append_run _ rfl (.tmp 16) (.tmp 20) 121 121 rfl _ _ rfl rfl rv' w' HR.out ?_))
      go_roundg (n - (j + 1))
      case measure => have := HG.out; omega
      case rel => exact ⟨j + 1, _, by omega, rfl, (by have := HLE.out; have := HNN.out; rw [IntWalk.wrap64_in _ (by omega)]; rfl), rfl, by rw [List.take_add_one, HPX.out]; simp only [Option.toList, List.map_append]; exact HST2.out⟩
    · obtain rfl : j = n := by omega
      have HST2 := Lib.hid hst; clear hst
      go_wp2_with fail
      go_ret
      refine ⟨rv, rfl, ?_, HST2.out.bel⟩
      have := HST2.out.own
      rw [HNN.out, List.take_length, HKV.out] at this
      exact this
set_option maxRecDepth 100000 in
set_option maxHeartbeats 1600000 in
/-- Keys: all keys -/
theorem Keys_any (h : SAt w v l room) : Calls Tryz.prog 103 #[v] w (RPost eI w (l.map (·.1))) := by
  obtain ⟨vt, t, rfl, ht, rfl, hr, h1, h2⟩ := h
  obtain ⟨o, rfl⟩ := ht.ptr
  obtain ⟨M, hmk0, hown⟩ := made eI t.kvs.length (by omega)
  have hmk : ∀ W : World, (Instr.makeSlice 152 (.int .i64 0) (.int .i64 (t.kvs.length : Int))).run Tryz.prog W = .ok (.slice (some ⟨W.heap.size, 0, none⟩) 0 t.kvs.length) (W.alloc (.cells M 3)) := hmk0
  have CP := Lib.hid (start_lst (room := room) ht hown (by omega) _ rfl)
  have hle : t.its.length ≤ 70000 := by have := t.kvs_length; omega
  have HLE := Lib.hid hle
  have hkv : t.its.map (·.2) = t.kvs := rfl
  have HKV := Lib.hid hkv
  clear ht hown hmk0 hr hle hkv h1 h2
  generalize t.kvs.length = N at *
  generalize t.kvs = kk at *
  generalize t.its = ps at *
  go_enter Tryz.func103, Tryz.ntmps103
  go_wp2_with fail
  refine CP.out.mono ?_
  rintro e w2 ⟨sv, rfl, hst⟩
  obtain ⟨O, cap, rfl⟩ := hst.len
  generalize ((w.alloc (.cells #[.pointer o, .int .i64 (N : Int), .int .i64 (room : Int)] 34)).alloc (.cells M eI.e)).heap.size = B at *
  have HST := Lib.hid hst; clear hst CP hmk
  obtain ⟨n, hn⟩ : ∃ n, n = ps.length := ⟨_, rfl⟩
  rw [← hn] at HST ⊢
  have HNN := Lib.hid hn; clear hn
  go_wp2_with fail
  go_loopg [12, 3] n (fun gh s12 s3 wx => ∃ (j : Nat) (rv : Value), j ≤ n ∧ gh = n - j ∧ s12 = .int .i64 (j : Int) ∧ rv = s3 ∧ LSt eI w wx B (.slice O n cap) rv ps ((ps.take j).map (·.2.1)))
  case atStart => exact ⟨0, _, Nat.zero_le _, rfl, rfl, rfl, HST.out⟩
  case round =>
    obtain ⟨j, rv, hj, hg, rfl, rfl, hst⟩ := hrel
    have HG := Lib.hid hg; clear hg HST
    by_cases hlt : j < n
    · obtain ⟨g, cap', p, x, hsv, hpx, k0, kx⟩ := hst.cell (j := j) (by rw [← HNN.out]; exact hlt)
      rw [← HNN.out] at hsv
      injection hsv with e1 _ e3
      subst e1; subst e3
      have q0 := kx.c0
      obtain ⟨rv', w', hr, hst'⟩ := hst.push (by decide) x.1 (by rw [List.length_map, List.length_take]; have := HLE.out; omega) 152
      have hr2 : (Builtin.append_ #[152, 152] 152 #[rv, .slice (some ⟨wr.heap.size, 0, none⟩) 1 1]).run Tryz.prog (wr.alloc (.cells #[.int .i64 x.1] 3)) = .ok rv' w' := hr
      have HR := Lib.hid hr2; have HST2 := Lib.hid hst'
      have HPX := Lib.hid hpx
      have b3 : (j : Int) < (n : Int) := by omega
      have b4 : (0 : Int) ≤ (j : Int) := by omega
      clear hr hr2 hst hst' kx hpx
      go_wp2_with (at_builtin; (refine Lib.wpList_append_run _ rfl (.tmp 16) (.tmp 21) 152 152 rfl _ _ rfl rfl rv' w' HR.out ?_))
      go_roundg (n - (j + 1))
      case measure => have := HG.out; omega
      case rel => exact ⟨j + 1, _, by omega, rfl, (by have := HLE.out; have := HNN.out; rw [IntWalk.wrap64_in _ (by omega)]; rfl), rfl, by rw [List.take_add_one, HPX.out]; simp only [Option.toList, List.map_append]; exact HST2.out⟩
    · obtain rfl : j = n := by omega
      have HST2 := Lib.hid hst; clear hst
      go_wp2_with fail
      go_ret
      refine ⟨rv, rfl, ?_, HST2.out.bel⟩
      have := HST2.out.own
      rw [HNN.out, List.take_length] at this
      rw [← HKV.out, List.map_map]
      exact this
end
end Go.Proofs.YtlmdhkaplemjpaaGreat.Sh
