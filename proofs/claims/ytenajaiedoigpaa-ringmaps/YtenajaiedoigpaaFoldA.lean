/- The contract of Fold of numbers into a row of numbers. -/
import Derived.Test.YtenajaiedoigpaaMapC
namespace Go.Proofs.Ytenajaiedoigpaa
open Go.RowKit Go.Lib Plain

section
variable {w w1 wx : World} {B p room m : Nat}
/-- the state of the loop -/
structure FSt (w wx : World) (B V G n j : Nat) (vo : Value) (us xs : List Int) : Prop where
  list : OwnI wx w.heap.size (.slice (some ⟨G, 0, none⟩) n n) xs
  var : At wx V 30 #[vo]
  cur : OwnI wx B vo (us ++ xs.take j)
  bel : Below w.heap.size w wx
theorem FSt.next {V G n j : Nat} {vo v' : Value} {us xs : List Int} (h : FSt w wx B V G n j vo us xs) (hb : Below wx.heap.size wx w1) (ho : OwnI w1 wx.heap.size v' (us ++ xs.take (j + 1))) (hB : B ≤ w.heap.size) (hV : w.heap.size ≤ V) :
    FSt w (w1.setCell ⟨V, 0, none⟩ v') B V G n (j + 1) v' us xs := by
  have hv := h.var.below hb h.var.lt
  have hc : Chg w1 (w1.setCell ⟨V, 0, none⟩ v') (fun k => k = V) := (Chg.refl w1 (fun k => k = V)).set (p := ⟨V, 0, none⟩) (fun _ => rfl) v'
  have hl := h.list.below hb
  have hs := h.bel.size
  exact ⟨own_chg hl hc (fun k hk e => by subst e; exact own_ne hl hv (by decide) hk), by simpa using hv.set 0 v', own_chg (ho.mono (by omega)) hc (fun k hk e => by subst e; exact own_ne ho hv (by decide) hk), (h.bel.trans (hb.mono hs)).setCell hV _⟩
set_option maxRecDepth 100000 in
set_option maxHeartbeats 1600000 in
theorem fold_any {its : List (Int × Nat)} {b : Nat} {vu : Value} {us : List Int} (h : RAt (two (Value.int .i64)) 68 70 w b p room its m) (hu : OwnI w B vu us) (hB : B ≤ w.heap.size) (hn : us.length + its.length ≤ 1000) :
    Calls Try.prog 26 #[.pointer (some ⟨p, 0, none⟩), vu, fadd] w fun e w' => ∃ v', e = .returned v' ∧ OwnI w' B v' (us ++ its.map (·.1)) ∧ Below w.heap.size w w' := by
  have hmf : ∀ (fn : Fn) (first cap : Array Value) (w : World), (Instr.makeFunc fn first cap).run Try.prog w = .ok (.func fn first cap) w := fun _ _ _ _ => rfl
  have hfe := run_eql_func Try.underlying39 (.func 27) #[] #[]
  obtain ⟨O, la, lb, rfl⟩ : ∃ O la lb, vu = .slice O la lb := by
    rcases hu.form with rfl | ⟨g, c, rfl⟩
    · exact ⟨_, _, _, rfl⟩
    · exact ⟨_, _, _, rfl⟩
  have hlr := h.length
  have lp := h.lt
  have b1 : Below w.heap.size w (w.alloc (.cells #[.slice O la lb] 30)) := (Below.refl _ _).alloc (Nat.le_refl _) _
  have b2 : Below w.heap.size w ((w.alloc (.cells #[.slice O la lb] 30)).alloc (.cells #[.slice O la lb] 30)) := b1.alloc (by simp) _
  have av : At ((w.alloc (.cells #[.slice O la lb] 30)).alloc (.cells #[.slice O la lb] 30)) (w.heap.size + 1) 30 #[.slice O la lb] := by
    have := At.new (w.alloc (.cells #[.slice O la lb] 30)) 30 #[.slice O la lb]
    simpa using this
  have r2 := h.below b2
  have u2 := hu.below b2
  obtain ⟨wa, hwa⟩ : ∃ wa, (w.alloc (.cells #[.slice O la lb] 30)).alloc (.cells #[.slice O la lb] 30) = wa := ⟨_, rfl⟩
  rw [hwa] at b2 av r2 u2
  have cl := RI.list_any r2
  have hxl : (its.map (·.1)).length = its.length := List.length_map ..
  have HWA := Lib.hid hwa; have B2 := Lib.hid b2; have AV := Lib.hid av; have U2 := Lib.hid u2; have CL := Lib.hid cl
  clear hwa b1 b2 av r2 u2 cl h hu
  unfold fadd
  go_enter_defers Try.func26, Try.ntmps26
  go_wp2_with fail
  rw [HWA.out]
  refine CL.out.mono ?_
  rintro e w4 ⟨rfl, hrow, hb4⟩
  have hown : OwnI w4 w.heap.size (.slice (some ⟨wa.heap.size, 0, none⟩) its.length its.length) (its.map (·.1)) := by
    rw [← hxl] at hrow ⊢
    exact hrow.own B2.out.size (by rw [hxl]; omega)
  have st0 : FSt w w4 B (w.heap.size + 1) wa.heap.size its.length 0 (.slice O la lb) us (its.map (·.1)) :=
    ⟨hown, AV.out.below hb4 AV.out.lt, by rw [List.take_zero, List.append_nil]; exact U2.out.below hb4, B2.out.trans (hb4.mono B2.out.size)⟩
  generalize wa.heap.size = G at *
  have ST0 := Lib.hid st0; clear st0 hown hrow hb4 CL AV U2 B2 HWA
  generalize hxs : its.map (·.1) = xs at *
  have HXS := Lib.hid hxs; clear hxs
  generalize its.length = n at *
  go_wp2_with fail
  go_loopg [21, 8] n (fun gh s21 s8 wx => ∃ (j : Nat) (vo : Value), j ≤ n ∧ gh = n - j ∧ s21 = .int .i64 (j : Int) ∧ FSt w wx B (w.heap.size + 1) G n j vo us xs)
  case atStart => exact ⟨0, _, Nat.zero_le _, rfl, rfl, ST0.out⟩
  case round =>
    obtain ⟨j, vo, hj, hg, rfl, hst⟩ := hrel
    have HG := Lib.hid hg; have KST := Lib.hid hst; clear hg hst ST0
    have cv : wr.cell? ⟨w.heap.size + 1, 0, none⟩ = some vo := by rw [KST.out.var.cell]; rfl
    have fv := KST.out.var.frozen 0
    have lv := KST.out.var.lt
    by_cases hlt : j < n
    · have hc := KST.out.list.at (i := j) (by omega)
      have htk := take_map id 0 xs (show j < xs.length by omega)
      simp only [List.map_id] at htk
      have ca := add_any (xs.getD j 0) KST.out.cur (by rw [List.length_append, List.length_take]; omega)
      rw [List.append_assoc] at ca
      have hid : id (xs.getD j 0) = xs.getD j 0 := rfl
      rw [hid] at htk
      rw [← htk] at ca
      generalize xs.getD j 0 = x at hc ca
      have b3 : (j : Int) < (n : Int) := by omega
      have b4 : (0 : Int) ≤ (j : Int) := by omega
      have CA := Lib.hid ca; clear ca htk hid
      go_wp2_with fail
      refine CA.out.mono ?_
      rintro e w5 ⟨v', rfl, ho5, hb5⟩
      have hv5 := KST.out.var.below hb5 KST.out.var.lt
      have cv5 : w5.cell? ⟨w.heap.size + 1, 0, none⟩ = some vo := by rw [hv5.cell]; rfl
      have fv5 := hv5.frozen 0
      have st5 := KST.out.next hb5 ho5 hB (by omega)
      obtain ⟨O5, a5, b5, rfl⟩ : ∃ O la lb, v' = .slice O la lb := by
        rcases ho5.form with rfl | ⟨g, c, rfl⟩
        · exact ⟨_, _, _, rfl⟩
        · exact ⟨_, _, _, rfl⟩
      have ST5 := Lib.hid st5; clear st5 hv5 ho5 hb5 CA
      go_wp2_with fail
      go_roundg (n - (j + 1))
      case measure => have := HG.out; omega
      case rel => exact ⟨j + 1, _, by omega, rfl, by go_num, ST5.out⟩
    · obtain rfl : j = n := by omega
      obtain ⟨O5, a5, b5, rfl⟩ : ∃ O la lb, vo = .slice O la lb := by
        rcases KST.out.cur.form with rfl | ⟨g, c, rfl⟩
        · exact ⟨_, _, _, rfl⟩
        · exact ⟨_, _, _, rfl⟩
      have av := KST.out.var
      have hset : At (wr.setCell ⟨w.heap.size + 1, 0, none⟩ (.slice O5 a5 b5)) (w.heap.size + 1) 30 #[.slice O5 a5 b5] := by simpa using av.set 0 (.slice O5 a5 b5)
      have hcell : (wr.setCell ⟨w.heap.size + 1, 0, none⟩ (.slice O5 a5 b5)).cell? ⟨w.heap.size + 1, 0, none⟩ = some (.slice O5 a5 b5) := by rw [hset.cell]; rfl
      have hcur := KST.out.cur
      rw [List.take_of_length_le (by omega)] at hcur
      have hc : Chg wr (wr.setCell ⟨w.heap.size + 1, 0, none⟩ (.slice O5 a5 b5)) (fun k => k = w.heap.size + 1) := (Chg.refl wr (fun k => k = w.heap.size + 1)).set (p := ⟨w.heap.size + 1, 0, none⟩) (fun _ => rfl) _
      have hfin : OwnI (wr.setCell ⟨w.heap.size + 1, 0, none⟩ (.slice O5 a5 b5)) B (.slice O5 a5 b5) (us ++ xs) ∧ Below w.heap.size w (wr.setCell ⟨w.heap.size + 1, 0, none⟩ (.slice O5 a5 b5)) :=
        ⟨own_chg hcur hc (fun k hk e => by subst e; exact own_ne hcur av (by decide) hk), KST.out.bel.setCell (by simp) _⟩
      have HFIN := Lib.hid hfin
      clear hfin hc hcur hset av
      go_wp2_with fail
      refine leaves_cons (f := 49) (args := #[.pointer (some ⟨w.heap.size, 0, none⟩), .pointer (some ⟨w.heap.size + 1, 0, none⟩)]) (by simp) (by simp [go_sem]) ?_
      refine (fold1_idle w.heap.size (w.heap.size + 1) _).mono ?_
      rintro e u' w8 ⟨rfl, rfl, rfl⟩
      simp only [Leaves, settle, results, Try.results26]
      simp [go_sem, hcell]
      rw [HXS.out]
      exact HFIN.out
set_option maxHeartbeats 400000 in
theorem fold_nil (O : Option Addr) (la lb : Nat) (F : Value) (w : World) : Calls Try.prog 26 #[.pointer none, .slice O la lb, F] w fun e w' => e = .returned (.slice O la lb) ∧ Below w.heap.size w w' := by
  go_enter_defers Try.func26, Try.ntmps26
  go_wp2_with fail
  simp [bodyPostD, Leaves, results, Try.results26, go_sem]
  exact ((Below.refl _ _).alloc (Nat.le_refl _) _).alloc (by simp) _
set_option maxHeartbeats 400000 in
theorem fold_nilf (p : Nat) (O : Option Addr) (la lb : Nat) (w : World) : Calls Try.prog 26 #[.pointer (some ⟨p, 0, none⟩), .slice O la lb, .nilFunc] w fun e w' => e = .returned (.slice O la lb) ∧ Below w.heap.size w w' := by
  have hfe := run_eql_nilFunc (P := Try.prog) Try.underlying39
  go_enter_defers Try.func26, Try.ntmps26
  go_wp2_with fail
  simp [bodyPostD, Leaves, results, Try.results26, go_sem]
  exact ((Below.refl _ _).alloc (Nat.le_refl _) _).alloc (by simp) _
end
end Go.Proofs.Ytenajaiedoigpaa
