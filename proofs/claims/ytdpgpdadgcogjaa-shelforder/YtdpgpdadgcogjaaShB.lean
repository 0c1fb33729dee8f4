/- The contracts of Without, List and Keys. -/
import Derived.Test.YtdpgpdadgcogjaaShA
namespace Go.Proofs.Ytdpgpdadgcogjaa
open Go.RowKit Go.Lib Plain
set_option linter.unusedVariables false

section
variable {w w' : World} {v : Value} {l : List KV} {room : Nat}
set_option maxRecDepth 100000 in
set_option maxHeartbeats 1600000 in
theorem wo_none {o : Option Addr} {k : ByteArray} {N : Nat} {t : T} (ht : TAt w w.heap.size (.pointer o) t) (hr : Rise t.kvs) (hg : get k t.kvs = none) :
    Calls Try.prog 11 #[.agg #[.pointer o, .int .i64 (N : Int), .int .i64 (room : Int)], .string k] w fun e w' => e = .returned (.agg #[.pointer o, .int .i64 (N : Int), .int .i64 (room : Int)]) ∧ Below w.heap.size w w' := by
  have hb : Below w.heap.size w ((w.alloc (.cells #[.pointer o, .int .i64 (N : Int), .int .i64 (room : Int)] 26)).alloc (.cells #[.pointer none, .int .i64 0, .int .i64 0] 26)) := ((Below.refl _ _).alloc (Nat.le_refl _) _).alloc (by simp) _
  have cf := find_any k (ht.step hb) hr
  rw [hg] at cf
  have CF := Lib.hid cf
  have HB := Lib.hid hb; clear hb ht hr hg cf
  go_enter Try.func11, Try.ntmps11
  go_wp2_with fail
  refine CF.out.mono ?_
  rintro e w2 ⟨rfl, ⟨_, rfl⟩ | ⟨g, p, vl, vr, hh, x, h0, _⟩⟩
  · go_wp2_with fail
    exact bodyPost_ret (v := .agg #[.pointer o, .int .i64 (N : Int), .int .i64 (room : Int)]) (by simp [results, Try.results11, go_sem]) rfl ⟨rfl, ((Below.refl _ _).alloc (Nat.le_refl _) _).alloc (by simp) _⟩
  · cases h0
/-- the world in which Without goes on -/
abbrev delW (w : World) (o : Option Addr) (N room : Nat) : World :=
  (w.alloc (.cells #[.pointer o, .int .i64 (N : Int), .int .i64 (room : Int)] 26)).alloc (.cells #[.pointer none, .int .i64 0, .int .i64 0] 26)
set_option maxRecDepth 100000 in
set_option maxHeartbeats 1600000 in
theorem wo_some {o : Option Addr} {k : ByteArray} {y : Int} {N M : Nat} {t : T} {L : List KV} (ht : TAt w w.heap.size (.pointer o) t) (hr : Rise t.kvs) (hg : get k t.kvs = some y) (hM : N = M + 1) (hN : N ≤ 1000000)
    (cw : Calls Try.prog 30 #[.pointer o, .string k] (delW w o N room) (WPost (delW w o N room) L)) :
    Calls Try.prog 11 #[.agg #[.pointer o, .int .i64 (N : Int), .int .i64 (room : Int)], .string k] w fun e w' => ∃ o' t', e = .returned (.agg #[.pointer o', .int .i64 (M : Int), .int .i64 (room : Int)]) ∧ TAt w' w'.heap.size (.pointer o') t' ∧ t'.kvs = L ∧ Below w.heap.size w w' := by
  have hb : Below w.heap.size w ((w.alloc (.cells #[.pointer o, .int .i64 (N : Int), .int .i64 (room : Int)] 26)).alloc (.cells #[.pointer none, .int .i64 0, .int .i64 0] 26)) := ((Below.refl _ _).alloc (Nat.le_refl _) _).alloc (by simp) _
  have cf := find_any k (ht.step hb) hr
  rw [hg] at cf
  have CF := Lib.hid cf; have CW := Lib.hid cw
  have HB := Lib.hid hb; clear hb ht hr hg cf cw
  have f2 : IntKind.i64.wrap ((N : Int) - 1) = (M : Int) := by rw [IntWalk.i64_in _ (by omega)]; omega
  clear hM hN
  go_enter Try.func11, Try.ntmps11
  go_wp2_with fail
  refine CF.out.mono ?_
  rintro e w2 ⟨rfl, ⟨h0, _⟩ | ⟨g, p, vl, vr, hh, y', _, rfl, _, _⟩⟩
  · cases h0
  · clear CF
    go_wp2_with fail
    refine CW.out.mono ?_
    rintro e w5 ⟨v5, t5, rfl, T5, k5, b5⟩
    obtain ⟨o5, rfl⟩ := T5.ptr
    have hs : w5.heap.size ≥ w.heap.size + 2 := by have := b5.size; simpa using this
    have a1 : At w5 w.heap.size 26 #[.pointer o, .int .i64 (N : Int), .int .i64 (room : Int)] := At.below ((At.new w 26 _).alloc _) b5 (by simp; omega)
    have a2 : At w5 (w.heap.size + 1) 26 #[.pointer none, .int .i64 0, .int .i64 0] := by
      have := (At.new (w.alloc (.cells #[.pointer o, .int .i64 (N : Int), .int .i64 (room : Int)] 26)) 26 #[.pointer none, .int .i64 0, .int .i64 0])
      have e : (w.alloc (.cells #[.pointer o, .int .i64 (N : Int), .int .i64 (room : Int)] 26)).heap.size = w.heap.size + 1 := by simp
      rw [e] at this
      exact this.below b5 (by simp)
    have c0 : w5.cell? ⟨w.heap.size, 0, none⟩ = some (.pointer o) := by rw [a1.cell]; rfl
    have c1 : w5.cell? ⟨w.heap.size, 1, none⟩ = some (.int .i64 (N : Int)) := by rw [a1.cell]; rfl
    have c2 : w5.cell? ⟨w.heap.size, 2, none⟩ = some (.int .i64 (room : Int)) := by rw [a1.cell]; rfl
    have z0 := a1.frozen 0; have z1 := a1.frozen 1
    have d0 : w5.cell? ⟨w.heap.size + 1, 0, none⟩ = some (.pointer none) := by rw [a2.cell]; rfl
    have d1 : w5.cell? ⟨w.heap.size + 1, 1, none⟩ = some (.int .i64 0) := by rw [a2.cell]; rfl
    have d2 : w5.cell? ⟨w.heap.size + 1, 2, none⟩ = some (.int .i64 0) := by rw [a2.cell]; rfl
    have y0 := a2.frozen 0; have y1 := a2.frozen 1; have y2 := a2.frozen 2
    have hb5 : Below w.heap.size w w5 := HB.out.trans (b5.mono (by simp; omega))
    have ne : w.heap.size + 1 ≠ w.heap.size := by omega
    have a3 := (at3 a1 (.pointer o5)).1
    have a1' : At ((w5.setCell ⟨w.heap.size, 0, none⟩ (.pointer o5)).setCell ⟨w.heap.size, 1, none⟩ (.int .i64 (M : Int))) (w.heap.size + 1) 26 #[.pointer none, .int .i64 0, .int .i64 0] := (a2.far ne _).far ne _
    have hfin : TAt (((((w5.setCell ⟨w.heap.size, 0, none⟩ (.pointer o5)).setCell ⟨w.heap.size, 1, none⟩ (.int .i64 (M : Int))).setCell ⟨w.heap.size + 1, 0, none⟩ (.pointer o5)).setCell ⟨w.heap.size + 1, 1, none⟩ (.int .i64 (M : Int))).setCell ⟨w.heap.size + 1, 2, none⟩ (.int .i64 (room : Int))) w5.heap.size (.pointer o5) t5 :=
      ((T5.far a1 (by decide) (by decide)).far a3 (by decide) (by decide)).store3 a1' (by decide) (by decide)
    have hbf : Below w.heap.size w (((((w5.setCell ⟨w.heap.size, 0, none⟩ (.pointer o5)).setCell ⟨w.heap.size, 1, none⟩ (.int .i64 (M : Int))).setCell ⟨w.heap.size + 1, 0, none⟩ (.pointer o5)).setCell ⟨w.heap.size + 1, 1, none⟩ (.int .i64 (M : Int))).setCell ⟨w.heap.size + 1, 2, none⟩ (.int .i64 (room : Int))) :=
      (((((hb5.setCell (Nat.le_refl _) _).setCell (Nat.le_refl _) _).setCell (by simp) _).setCell (by simp) _).setCell (by simp) _)
    have T5' := Lib.hid hfin; have B5 := Lib.hid hbf; clear T5 b5 a1 a2 CW HB hfin hbf hb5 a1' a3
    go_wp2_with fail
    exact bodyPost_ret (v := .agg #[.pointer o5, .int .i64 (M : Int), .int .i64 (room : Int)]) (by simp [results, Try.results11, go_sem, *]) rfl ⟨o5, t5, rfl, by simp only [size_set]; exact T5'.out, k5, B5.out⟩
/-- Without: a key's pair -/
theorem Without_any (k : ByteArray) (h : SAt w v l room) : Calls Try.prog 11 #[v, .string k] w (SPost w (del k l) room) := by
  obtain ⟨vt, t, rfl, ht, rfl, hr, h1, h2⟩ := h
  obtain ⟨o, rfl⟩ := ht.ptr
  cases hg : get k t.kvs with
  | none =>
    refine (wo_none ht hr hg).mono ?_
    rintro e w' ⟨rfl, hb⟩
    refine ⟨_, rfl, ?_, hb⟩
    rw [del_none (get_none_iff hg)]
    exact ⟨_, t, rfl, ht.step hb, rfl, hr, h1, h2⟩
  | some y =>
    have hb : Below w.heap.size w (delW w o t.kvs.length room) := ((Below.refl _ _).alloc (Nat.le_refl _) _).alloc (by simp) _
    have hpos : 0 < t.kvs.length := List.length_pos_of_mem (get_mem hg)
    have el : (del k t.kvs).length = t.kvs.length - 1 := by rw [del_length hr, hg]; rfl
    refine (wo_some (M := t.kvs.length - 1) ht hr hg (by omega) (by omega) (without_any (ht.step hb) hr (by omega))).mono ?_
    rintro e w' ⟨o', t', rfl, ht', hk, hb⟩
    refine ⟨_, rfl, ⟨_, t', by rw [el], ht', hk, hr.del, by omega, h2⟩, hb⟩
/-- what List, or Keys, answers -/
def RPost {α : Type} (E : El α) (w : World) (xs : List α) (e : Ending) (w' : World) : Prop := ∃ sv, e = .returned sv ∧ Own E w' w.heap.size sv xs ∧ Below w.heap.size w w'
theorem own_ne_t {α β : Type} {E : El α} {F : El β} {B C : Nat} {u : Value} {xs : List α} {ys : List β} (h : Own E w B v xs) (k : Own F w C u ys) (hne : E.e ≠ F.e) : ∀ g, v.ownBlock = some g → ¬ u.ownBlock = some g := fun g hg e => own_ne2 h k hne hg e
/-- the state in the loops of List and Keys -/
structure LSt {α : Type} (E : El α) (w wx : World) (B : Nat) (sv rv : Value) (ps : List (Nat × KV)) (xs : List α) : Prop where
  src : Own eP wx B sv (ps.map (·.1))
  at_ : ∀ y ∈ ps, y.1 < w.heap.size ∧ PAt wx y.1 y.2
  own : Own E wx w.heap.size rv xs
  bel : Below w.heap.size w wx
  lo : w.heap.size ≤ B
theorem LSt.push {α : Type} {E : El α} {wx : World} {B : Nat} {sv rv : Value} {ps : List (Nat × KV)} {xs : List α} (h : LSt E w wx B sv rv ps xs) (hne : eP.e ≠ E.e) (x : α) (hn : xs.length ≤ 100000) (ty : TypeId) :
    ∃ rv' w', (Builtin.append_ #[E.ts, E.ts] ty #[rv, .slice (some ⟨wx.heap.size, 0, none⟩) 1 1]).run Try.prog (wx.alloc (.cells (E.enc x).toArray E.e)) = .ok rv' w' ∧ LSt E w w' B sv rv' ps (xs ++ [x]) := by
  have hb : Below wx.heap.size wx (wx.alloc (.cells (E.enc x).toArray E.e)) := (Below.refl _ _).alloc (Nat.le_refl _) _
  have ho := h.own.below hb
  have hs := h.bel.size
  obtain ⟨rv', w', hr, o', c', l'⟩ := ho.push (x := x) (b := wx.heap.size) (off := 0) (cap := 1) (by simp; omega) (fun j u hu => by
    rw [(At.new wx E.e (E.enc x).toArray).cell]
    simpa using hu) (by omega) ty
  have hb2 : Below w.heap.size w w' := (h.bel.trans (hb.mono hs)).trans (c'.below' ho (by simp; omega))
  refine ⟨rv', w', hr, ⟨(h.src.below hb).chg c' (own_ne_t (h.src.below hb) ho hne), fun y hy => ?_, o', hb2, h.lo⟩⟩
  obtain ⟨h1, h2⟩ := h.at_ y hy
  exact ⟨h1, (h2.keep hb h2.lt).chg c' (fun e => by have := (ho.lt e).1; omega)⟩
end
end Go.Proofs.Ytdpgpdadgcogjaa
