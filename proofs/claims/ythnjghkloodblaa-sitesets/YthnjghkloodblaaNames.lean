/- The names, as the program tells them. -/
import Derived.Test.YthnjghkloodblaaRw
namespace Go.Proofs.Ythnjghkloodblaa
open Go.RowKit Go.Lib
set_option linter.unusedVariables false

/-- the state of a round of Names -/
structure MSt (w wx : World) (g : Nat) (rv : Value) (xs : List ByteArray) : Prop where
  at_ : At wx g 52 NUM
  own : Own eS wx w.heap.size rv xs
  bel : Below w.heap.size w wx
theorem MSt.step {w wx wy : World} {g : Nat} {rv : Value} {xs : List ByteArray} (h : MSt w wx g rv xs) (hb : Below wx.heap.size wx wy) : MSt w wy g rv xs := ⟨h.at_.below hb h.at_.lt, h.own.below hb, h.bel.trans (hb.mono h.bel.size)⟩
theorem MSt.push {w wx : World} {g : Nat} {rv : Value} {xs : List ByteArray} (h : MSt w wx g rv xs) (x : ByteArray) (hn : xs.length ≤ 100000) (ty : TypeId) :
    ∃ rv' w', (Builtin.append_ #[33, 33] ty #[rv, .slice (some ⟨wx.heap.size, 0, none⟩) 1 1]).run Try.prog (wx.alloc (.cells #[.string x] 9)) = .ok rv' w' ∧ MSt w w' g rv' (xs ++ [x]) := by
  have h1 := h.step (below_new wx (.cells #[.string x] 9))
  obtain ⟨rv', w', hr, o', c', l'⟩ := h1.own.push (x := x) (b := wx.heap.size) (off := 0) (cap := 1) h1.bel.size (fun j u hu => by
    match j, hu with
    | 0, hu =>
      have : (Value.string x) = u := by simpa [eS] using hu
      subst this
      simp [go_sem]
    | j + 1, hu => simp [eS] at hu) (by omega) ty
  refine ⟨rv', w', hr, h1.at_.chg c' (fun e => own_ne h1.own h1.at_ (by decide) e), o', h1.bel.trans (c'.toBelow h1.bel.size (fun k hk e => ?_))⟩
  have := (h1.own.lt e).1
  omega
theorem take_nm {j : Nat} (h : j < 17) : names.take (j + 1) = names.take j ++ [nm j] := by
  rw [List.take_add_one, nm_get h]; rfl
theorem take_len (j : Nat) : (names.take j).length ≤ 17 := by rw [List.length_take, names_length]; omega
/-- what Names answers: a row of the names -/
def NPost (w : World) (e : Ending) (w' : World) : Prop := ∃ g cap, e = .returned (.slice (some ⟨g, 0, none⟩) 17 cap) ∧ 17 ≤ cap ∧ g < w'.heap.size ∧ (∀ k, k < 17 → w'.cell? ⟨g, k, none⟩ = some (.string (nm k))) ∧ Below w.heap.size w w'
theorem npost {w w' : World} {v : Value} (h : Own eS w' w.heap.size v names) (hb : Below w.heap.size w w') : NPost w (.returned v) w' := by
  rcases h.form with ⟨_, h0⟩ | ⟨g, cap, rfl, hc, _, hg⟩
  · exact absurd h0 (by decide)
  · obtain ⟨O, cap', e, hc', hr⟩ := h.rd
    injection e with e1 _ e3
    subst e3
    refine ⟨g, cap, rfl, hc, hg, fun k hk => ?_, hb⟩
    obtain ⟨b, off, e2, _, hk2⟩ := hr k (nm k) (nm_get hk)
    rw [← e1] at e2
    injection e2 with e2
    injection e2 with e3 e4
    subst e3; subst e4
    have := hk2 0 (.string (nm k)) rfl
    simpa [eS] using this
set_option maxRecDepth 100000 in
set_option maxHeartbeats 1000000 in
theorem names_any (w : World) : Calls Try.prog 17 #[] w (NPost w) := by
  have CN := Lib.hid numbers_any
  have hsf := store_fn
  have HO := Lib.hid (Own.lit0 eS w (B := w.heap.size) (Nat.le_refl _))
  have HB := Lib.hid (below_new w (.cells #[] eS.e))
  have HPO := Lib.hid (fun W v (h : Own eS W w.heap.size v names) (hb : Below w.heap.size w W) => npost h hb)
  go_enter Try.func17, Try.ntmps17
  go_wp2_with fail
  refine (CN.out _).mono ?_
  rintro e w0 ⟨rfl, rfl⟩
  have hst : MSt w ((w.alloc (.cells #[] 9)).alloc (.cells NUM 52)) (w.alloc (.cells #[] 9)).heap.size (.slice (some ⟨w.heap.size, 0, none⟩) 0 0) (names.take 0) := ⟨At.new _ _ _, Own.below HO.out (below_new _ _), (below_new w _).alloc (by simp) _⟩
  have HST := Lib.hid hst; clear hst HO HB
  obtain ⟨W, hW⟩ : ∃ W, (w.alloc (.cells #[] 9)).alloc (.cells NUM 52) = W := ⟨_, rfl⟩
  rw [hW] at HST ⊢; clear hW
  generalize (w.alloc (.cells #[] 9)).heap.size = g at HST ⊢
  go_wp2_with fail
  go_loopg [7, 1] 17 (fun gh s7 s1 wx => ∃ (j : Nat) (rv : Value), j ≤ 17 ∧ gh = 17 - j ∧ s7 = .int .i64 (j : Int) ∧ rv = s1 ∧ MSt w wx g rv (names.take j))
  case atStart => exact ⟨0, _, Nat.zero_le _, rfl, rfl, rfl, HST.out⟩
  case round =>
    obtain ⟨j, rv, hj, hg, rfl, rfl, hst⟩ := hrel
    have HG := Lib.hid hg; clear hg HST
    by_cases hlt : j < 17
    · obtain ⟨k0, k1, k2, k3⟩ := num_cells hst.at_ hlt
      have hst1 := hst.step (below_new wr (.cells #[.string (nm j), .int .i64 (lo j), .int .i64 (hi j), .func (.func (24 + j)) #[] #[]] 52))
      obtain ⟨rv', w', hr, hst'⟩ := hst1.push (nm j) (by have := take_len j; omega) 33
      have hz : (wr.alloc (.cells #[.string (nm j), .int .i64 (lo j), .int .i64 (hi j), .func (.func (24 + j)) #[] #[]] 52)).heap.size = wr.heap.size + 1 := by simp
      rw [hz] at hr
      rw [← take_nm hlt] at hst'
      have HR := Lib.hid hr; have HST2 := Lib.hid hst'
      clear hr hst hst' hst1 hz
      generalize hxs : names.take (j + 1) = xs at *
      have HXS := Lib.hid hxs; clear hxs
      generalize nm j = x at *
      generalize 24 + j = f at *
      generalize lo j = l1 at *
      generalize hi j = l2 at *
      go_wp2_with (at_builtin; (refine Lib.wpList_append_run _ rfl (.tmp 11) (.tmp 14) 33 33 rfl _ _ rfl rfl rv' w' HR.out ?_))
      go_roundg (17 - (j + 1))
      case measure => have := HG.out; omega
      case rel => exact ⟨j + 1, _, by omega, rfl, by go_num, rfl, by rw [HXS.out]; exact HST2.out⟩
    · obtain rfl : j = 17 := by omega
      have HST2 := Lib.hid hst; clear hst
      go_wp2_with fail
      go_ret
      exact HPO.out _ _ HST2.out.own HST2.out.bel
end Go.Proofs.Ythnjghkloodblaa
