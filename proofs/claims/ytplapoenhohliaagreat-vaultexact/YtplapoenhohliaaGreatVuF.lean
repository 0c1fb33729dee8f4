import Derived.Test.YtplapoenhohliaaGreatVuC
import Derived.Test.YtplapoenhohliaaGreatVtO
import Derived.Test.YtplapoenhohliaaGreatRbJ
namespace Go.Proofs.YtplapoenhohliaaGreat
open Go.RowKit Go.Lib
set_option linter.unusedVariables false
set_option linter.unusedSimpArgs false
instance : DecidableEq Cg := fun a b => decidable_of_iff (a.beq b = true) Cg.beq_iff
theorem rd_cellG {w : World} {xs : List Cg} {O : Option Addr} {n c j : Nat} (h : Sh.Rd eG w (.slice O n c) xs) (hj : j < xs.length) :
  ∃ b off, O = some ⟨b, off, none⟩ ∧ b < w.heap.size ∧ w.rangeAt b (off + j * 11) xs[j].cells.toList := by
 obtain ⟨O', cap, e, _, k⟩ := h
 injection e with e1 _ _
 subst e1
 obtain ⟨b, off, e2, hlt, k2⟩ := k j xs[j] (List.getElem?_eq_getElem hj)
 exact ⟨b, off, e2, hlt, fun i u hu => k2 i u hu⟩
theorem rd_lenG {w : World} {u : Value} {xs : List Cg} (h : Sh.Rd eG w u xs) : ∃ O c, u = .slice O xs.length c := by
 obtain ⟨O, c, rfl, _⟩ := h
 exact ⟨O, c, rfl⟩
theorem run_neq39b {ρ : Operand → Value} {w : World} {d : Option Tmp} {t t2 : TypeId} {pos : String} {af : Array Edge} {gd : Option (Nat × Bool)} {a b : Operand} {x y : Cg} {v : Bool} (e1 : ρ a = x.V) (e2 : ρ b = y.V) (h : (!x.beq y) = v) : (execOp ρ { dst := d, op := Op.binOp .neq 48 a b t2, type := t, pos := pos, after := af, guard := gd }).run Tryz.prog w = .ok (.value (.bool v)) w := by
 subst h; exact run_neq39 e1 e2
def sameToG (xs ys : List Cg) (j : Nat) : Prop := ∀ i, i < j → xs[i]? = ys[i]?
set_option maxRecDepth 100000 in
set_option maxHeartbeats 1600000 in
theorem changes_rows {w : World} {u v : Value} {xs ys : List Cg} (hu : Sh.Rd eG w u xs) (hv : Sh.Rd eG w v ys) (hn : xs.length ≤ 70000) : Calls Tryz.prog 18 #[u, v] w (Yes w (decide (xs = ys))) := by
 obtain ⟨O, cu, rfl⟩ := rd_lenG hu
 obtain ⟨P, cv, rfl⟩ := rd_lenG hv
 by_cases hl : xs.length = ys.length
 ·have HU := Lib.hid hu; have HV := Lib.hid hv; have HL := Lib.hid hl; have HN := Lib.hid hn
  clear hu hv hn
  rw [hl] at HU HN ⊢
  obtain ⟨n, hnn⟩ : ∃ n, ys.length = n := ⟨_, rfl⟩
  rw [hnn] at HU HV HN HL ⊢
  have HNN := Lib.hid hnn
  clear hl hnn
  go_enter Tryz.func18, Tryz.ntmps18
  go_wp2_with fail
  go_loopg [5] n (fun gh sc wx => ∃ j : Nat, j ≤ n ∧ gh = n - j ∧ sc = .int .i64 (j : Int) ∧ Below w.heap.size w wx ∧ sameToG xs ys j)
  case atStart => exact ⟨0, Nat.zero_le _, rfl, rfl, Below.refl _ _, fun i hi => absurd hi (by omega)⟩
  case round =>
   obtain ⟨j, hj, hg, rfl, hb, hsm⟩ := hrel
   have HG := Lib.hid hg; have HB := Lib.hid hb; have HS := Lib.hid hsm; clear hg hb hsm
   by_cases hlt : j < n
   ·have h1 : j < xs.length := by rw [HL.out]; exact hlt
    have h2 : j < ys.length := by rw [HNN.out]; exact hlt
    obtain ⟨b1, o1, rfl, l1, k1⟩ := rd_cellG HU.out h1
    obtain ⟨b2, o2, rfl, l2, k2⟩ := rd_cellG HV.out h2
    have f1 : xs[j]? = some xs[j] := List.getElem?_eq_getElem h1
    have f2 : ys[j]? = some ys[j] := List.getElem?_eq_getElem h2
    generalize xs[j] = x at *
    generalize ys[j] = y at *
    have K1 := Lib.hid (rng_below k1 l1 HB.out); have K2 := Lib.hid (rng_below k2 l2 HB.out)
    have L1 : Hid (b1 < wr.heap.size) := Lib.hid (Nat.lt_of_lt_of_le l1 HB.out.size)
    have L2 : Hid (b2 < wr.heap.size) := Lib.hid (Nat.lt_of_lt_of_le l2 HB.out.size)
    have F1 := Lib.hid f1; have F2 := Lib.hid f2
    clear k1 k2 l1 l2 f1 f2 h1 h2
    have b3 : (j : Int) < (n : Int) := by omega
    have b4 : (0 : Int) ≤ (j : Int) := by omega
    go_upto_region 6 with fail
    cases hxy : x.beq y
    ·have HXY := Lib.hid hxy; clear hxy
     refine AnyOrder.region_kinds2 9 [.eq (.slice (some ⟨b1, o1, none⟩) n cu), .eq (.int .i64 (j : Int)), .eq (ptr b1 (o1 + j * 11)), .eq (x.V), .eq (.slice (some ⟨b2, o2, none⟩) n cv), .eq (.int .i64 (j : Int)), .eq (ptr b2 (o2 + j * 11)), .eq (y.V), .eq (.bool true)] (fun wx => Below wr.heap.size wr wx) (by kernel_rfl) (by kernel_rfl) rfl (by kernel_rfl) (below_drewN (Below.refl _ _) 1) (fun p _ _ hp => by simp at hp) ?_ ?_
     ·intro i o listed a1 w2 hin ho st hl hdep
      match i, ho with
      | 0, ho => (injection ho with ho; subst ho; have e0 : a1.eval (.tmp 0) = .slice (some ⟨b1, o1, none⟩) n cu := st.old hl 0 (by kernel_rfl); exact AnyOrder.sv rfl rfl (.slice (some ⟨b1, o1, none⟩) n cu) (AnyOrder.run_move e0) st.inv (Below.refl _ _) rfl)
      | 1, ho => (injection ho with ho; subst ho; have e0 : a1.eval (.tmp 5) = .int .i64 (j : Int) := st.old hl 5 (by kernel_rfl); exact AnyOrder.sv rfl rfl (.int .i64 (j : Int)) (AnyOrder.run_move e0) st.inv (Below.refl _ _) rfl)
      | 2, ho => (injection ho with ho; subst ho; have ec := AnyOrder.evc a1; have ef := AnyOrder.evf a1; have e0 : a1.eval (.tmp 17) = .slice (some ⟨b1, o1, none⟩) n cu := st.done 0 17 (hdep ⟨0, .data⟩ (by simp) rfl) rfl; have e1 : a1.eval (.tmp 18) = .int .i64 (j : Int) := st.done 1 18 (hdep ⟨1, .data⟩ (by simp) rfl) rfl; exact AnyOrder.sv rfl rfl (ptr b1 (o1 + j * 11)) (by generalize a1.eval = ρ at ec ef e0 e1 ⊢; simp [execOp, e0, e1, go_sem, b3, b4]) st.inv (Below.refl _ _) rfl)
      | 3, ho => (injection ho with ho; subst ho; have e0 : a1.eval (.tmp 19) = ptr b1 (o1 + j * 11) := st.done 2 19 (hdep ⟨2, .data⟩ (by simp) rfl) rfl; exact AnyOrder.sv rfl rfl (x.V) (run_load_cgr e0 (rng_below K1.out L1.out st.inv)) st.inv (Below.refl _ _) rfl)
      | 4, ho => (injection ho with ho; subst ho; have e0 : a1.eval (.tmp 1) = .slice (some ⟨b2, o2, none⟩) n cv := st.old hl 1 (by kernel_rfl); exact AnyOrder.sv rfl rfl (.slice (some ⟨b2, o2, none⟩) n cv) (AnyOrder.run_move e0) st.inv (Below.refl _ _) rfl)
      | 5, ho => (injection ho with ho; subst ho; have e0 : a1.eval (.tmp 5) = .int .i64 (j : Int) := st.old hl 5 (by kernel_rfl); exact AnyOrder.sv rfl rfl (.int .i64 (j : Int)) (AnyOrder.run_move e0) st.inv (Below.refl _ _) rfl)
      | 6, ho => (injection ho with ho; subst ho; have ec := AnyOrder.evc a1; have ef := AnyOrder.evf a1; have e0 : a1.eval (.tmp 21) = .slice (some ⟨b2, o2, none⟩) n cv := st.done 4 21 (hdep ⟨4, .data⟩ (by simp) rfl) rfl; have e1 : a1.eval (.tmp 22) = .int .i64 (j : Int) := st.done 5 22 (hdep ⟨5, .data⟩ (by simp) rfl) rfl; exact AnyOrder.sv rfl rfl (ptr b2 (o2 + j * 11)) (by generalize a1.eval = ρ at ec ef e0 e1 ⊢; simp [execOp, e0, e1, go_sem, b3, b4]) st.inv (Below.refl _ _) rfl)
      | 7, ho => (injection ho with ho; subst ho; have e0 : a1.eval (.tmp 23) = ptr b2 (o2 + j * 11) := st.done 6 23 (hdep ⟨6, .data⟩ (by simp) rfl) rfl; exact AnyOrder.sv rfl rfl (y.V) (run_load_cgr e0 (rng_below K2.out L2.out st.inv)) st.inv (Below.refl _ _) rfl)
      | 8, ho => (injection ho with ho; subst ho; have e0 : a1.eval (.tmp 20) = x.V := st.done 3 20 (hdep ⟨3, .data⟩ (by simp) rfl) rfl; have e1 : a1.eval (.tmp 24) = y.V := st.done 7 24 (hdep ⟨7, .data⟩ (by simp) rfl) rfl; exact AnyOrder.sv rfl rfl (.bool true) (run_neq39b e0 e1 (by rw [HXY.out]; rfl)) st.inv (Below.refl _ _) rfl)
      | n + 9, ho => exact absurd hin (by omega)
     ·intro w2 hJ
      simp only [AnyOrder.finK, List.take_succ_cons, List.take_zero, List.drop_succ_cons, List.drop_zero, Act.put, List.setIfInBounds_toArray, List.set_cons_zero, List.set_cons_succ]
      go_wp2_with fail
      go_ret
      refine ⟨?_, HB.out.trans (hJ.mono HB.out.size)⟩
      rw [decide_eq_false (fun e => by
       have h := F1.out; rw [e, F2.out] at h; injection h with h
       have h2 := HXY.out; rw [h, Cg.beq_self] at h2; cases h2)]
      rfl
    ·have HXY := Lib.hid hxy; clear hxy
     refine AnyOrder.region_kinds2 9 [.eq (.slice (some ⟨b1, o1, none⟩) n cu), .eq (.int .i64 (j : Int)), .eq (ptr b1 (o1 + j * 11)), .eq (x.V), .eq (.slice (some ⟨b2, o2, none⟩) n cv), .eq (.int .i64 (j : Int)), .eq (ptr b2 (o2 + j * 11)), .eq (y.V), .eq (.bool false)] (fun wx => Below wr.heap.size wr wx) (by kernel_rfl) (by kernel_rfl) rfl (by kernel_rfl) (below_drewN (Below.refl _ _) 1) (fun p _ _ hp => by simp at hp) ?_ ?_
     ·intro i o listed a1 w2 hin ho st hl hdep
      match i, ho with
      | 0, ho => (injection ho with ho; subst ho; have e0 : a1.eval (.tmp 0) = .slice (some ⟨b1, o1, none⟩) n cu := st.old hl 0 (by kernel_rfl); exact AnyOrder.sv rfl rfl (.slice (some ⟨b1, o1, none⟩) n cu) (AnyOrder.run_move e0) st.inv (Below.refl _ _) rfl)
      | 1, ho => (injection ho with ho; subst ho; have e0 : a1.eval (.tmp 5) = .int .i64 (j : Int) := st.old hl 5 (by kernel_rfl); exact AnyOrder.sv rfl rfl (.int .i64 (j : Int)) (AnyOrder.run_move e0) st.inv (Below.refl _ _) rfl)
      | 2, ho => (injection ho with ho; subst ho; have ec := AnyOrder.evc a1; have ef := AnyOrder.evf a1; have e0 : a1.eval (.tmp 17) = .slice (some ⟨b1, o1, none⟩) n cu := st.done 0 17 (hdep ⟨0, .data⟩ (by simp) rfl) rfl; have e1 : a1.eval (.tmp 18) = .int .i64 (j : Int) := st.done 1 18 (hdep ⟨1, .data⟩ (by simp) rfl) rfl; exact AnyOrder.sv rfl rfl (ptr b1 (o1 + j * 11)) (by generalize a1.eval = ρ at ec ef e0 e1 ⊢; simp [execOp, e0, e1, go_sem, b3, b4]) st.inv (Below.refl _ _) rfl)
      | 3, ho => (injection ho with ho; subst ho; have e0 : a1.eval (.tmp 19) = ptr b1 (o1 + j * 11) := st.done 2 19 (hdep ⟨2, .data⟩ (by simp) rfl) rfl; exact AnyOrder.sv rfl rfl (x.V) (run_load_cgr e0 (rng_below K1.out L1.out st.inv)) st.inv (Below.refl _ _) rfl)
      | 4, ho => (injection ho with ho; subst ho; have e0 : a1.eval (.tmp 1) = .slice (some ⟨b2, o2, none⟩) n cv := st.old hl 1 (by kernel_rfl); exact AnyOrder.sv rfl rfl (.slice (some ⟨b2, o2, none⟩) n cv) (AnyOrder.run_move e0) st.inv (Below.refl _ _) rfl)
      | 5, ho => (injection ho with ho; subst ho; have e0 : a1.eval (.tmp 5) = .int .i64 (j : Int) := st.old hl 5 (by kernel_rfl); exact AnyOrder.sv rfl rfl (.int .i64 (j : Int)) (AnyOrder.run_move e0) st.inv (Below.refl _ _) rfl)
      | 6, ho => (injection ho with ho; subst ho; have ec := AnyOrder.evc a1; have ef := AnyOrder.evf a1; have e0 : a1.eval (.tmp 21) = .slice (some ⟨b2, o2, none⟩) n cv := st.done 4 21 (hdep ⟨4, .data⟩ (by simp) rfl) rfl; have e1 : a1.eval (.tmp 22) = .int .i64 (j : Int) := st.done 5 22 (hdep ⟨5, .data⟩ (by simp) rfl) rfl; exact AnyOrder.sv rfl rfl (ptr b2 (o2 + j * 11)) (by generalize a1.eval = ρ at ec ef e0 e1 ⊢; simp [execOp, e0, e1, go_sem, b3, b4]) st.inv (Below.refl _ _) rfl)
      | 7, ho => (injection ho with ho; subst ho; have e0 : a1.eval (.tmp 23) = ptr b2 (o2 + j * 11) := st.done 6 23 (hdep ⟨6, .data⟩ (by simp) rfl) rfl; exact AnyOrder.sv rfl rfl (y.V) (run_load_cgr e0 (rng_below K2.out L2.out st.inv)) st.inv (Below.refl _ _) rfl)
      | 8, ho => (injection ho with ho; subst ho; have e0 : a1.eval (.tmp 20) = x.V := st.done 3 20 (hdep ⟨3, .data⟩ (by simp) rfl) rfl; have e1 : a1.eval (.tmp 24) = y.V := st.done 7 24 (hdep ⟨7, .data⟩ (by simp) rfl) rfl; exact AnyOrder.sv rfl rfl (.bool false) (run_neq39b e0 e1 (by rw [HXY.out]; rfl)) st.inv (Below.refl _ _) rfl)
      | n + 9, ho => exact absurd hin (by omega)
     ·intro w2 hJ
      simp only [AnyOrder.finK, List.take_succ_cons, List.take_zero, List.drop_succ_cons, List.drop_zero, Act.put, List.setIfInBounds_toArray, List.set_cons_zero, List.set_cons_succ]
      go_wp2_with fail
      go_roundg (n - (j + 1))
      case measure => have := HG.out; omega
      case rel => exact ⟨j + 1, by omega, rfl, (by have := HN.out; rw [IntWalk.wrap64_in _ (by omega)]; rfl), HB.out.trans (hJ.mono HB.out.size), fun i hi => by
       by_cases hij : i < j
       ·exact HS.out i hij
       ·obtain rfl : i = j := by omega
        rw [F1.out, F2.out, Cg.beq_iff.1 HXY.out]⟩
   ·obtain rfl : j = n := by omega
    go_wp2_with fail
    go_ret
    refine ⟨?_, HB.out⟩
    have : xs = ys := by
     apply List.ext_getElem?
     intro i
     by_cases hi : i < j
     ·exact HS.out i hi
     ·rw [List.getElem?_eq_none (by rw [HL.out]; omega), List.getElem?_eq_none (by rw [HNN.out]; omega)]
    rw [decide_eq_true this]
    rfl
 ·have hd : decide (xs = ys) = false := decide_eq_false (fun e => hl (congrArg List.length e))
  rw [hd]
  have f0 : ¬ (xs.length : Int) = (ys.length : Int) := by omega
  clear hu hv hl hd hn
  go_enter Tryz.func18, Tryz.ntmps18
  go_wp2_with fail
  go_ret
  exact ⟨rfl, Below.refl _ _⟩
end Go.Proofs.YtplapoenhohliaaGreat
namespace Go.Proofs.YtplapoenhohliaaGreat
open Go.RowKit Go.Lib
set_option linter.unusedVariables false
set_option linter.unusedSimpArgs false
structure ArAt (w : World) (q : Nat) (ss : List Sp) : Prop where
 len : ss.length = 3
 row : ∃ cur : Array Value, cur.size = 153 ∧ At w q 56 cur ∧ ∀ i s, ss[i]? = some s → ∀ j u, s.list[j]? = some u → cur[i * 51 + j]? = some u
section
variable {w w' : World} {q : Nat} {ss : List Sp}
theorem ArAt.ne (h : ArAt w q ss) {g : Nat} {t : TypeId} {cs : Array Value} (ha : At w g t cs) (ht : t ≠ 56) : g ≠ q := by
 obtain ⟨_, cur, _, h2, _⟩ := h
 exact At.ne ha h2 ht
theorem ArAt.lt (h : ArAt w q ss) : q < w.heap.size := by
 obtain ⟨_, cur, _, h2, _⟩ := h
 exact At.lt h2
theorem ArAt.chg {S : Nat → Prop} (h : ArAt w q ss) (hc : Chg w w' S) (hq : ¬ S q) : ArAt w' q ss := by
 obtain ⟨h0, cur, h1, h2, h3⟩ := h
 exact ⟨h0, cur, h1, At.chg h2 hc hq, h3⟩
theorem ArAt.step (h : ArAt w q ss) (hb : Below w.heap.size w w') : ArAt w' q ss := h.chg (Chg.ofBelow hb (fun _ => False)) (fun h => h)
theorem ArAt.off (h : ArAt w q ss) : Sh.Off w (fun j => j = q) := by
 obtain ⟨h0, cur, h1, h2, h3⟩ := h
 exact Off.one h2 (by decide) (by decide)
theorem ArAt.read (h : ArAt w q ss) {k : Nat} {s : Sp} (hs : ss[k]? = some s) : w.rangeAt q (k * 51) s.list := by
 obtain ⟨h0, cur, h1, h2, h3⟩ := h
 intro j u hu
 rw [At.cell h2]
 exact h3 k s hs j u hu
theorem ArAt.set (h : ArAt w q ss) {k : Nat} (hk : k < 3) (x : Sp) : ArAt (w.setCells q (k * 51) x.list) q (ss.set k x) ∧ Chg w (w.setCells q (k * 51) x.list) (fun j => j = q) ∧ w.there q (k * 51) 51 := by
 obtain ⟨h0, cur, h1, ha, hx⟩ := h
 have hlen : x.list.length = 51 := x.len
 have hpre : (cur.toList.take (k * 51)).length = k * 51 := by simp only [List.length_take, Array.length_toList]; omega
 have hmid : ((cur.toList.drop (k * 51)).take 51).length = 51 := by simp only [List.length_take, List.length_drop, Array.length_toList]; omega
 have ha2 : At w q 56 (cur.toList.take (k * 51) ++ ((cur.toList.drop (k * 51)).take 51 ++ (cur.toList.drop (k * 51)).drop 51)).toArray := by
  rw [List.take_append_drop, List.take_append_drop]; exact ha
 have h3 := At.setCells (vs := x.list) (by rw [hmid, hlen]) ha2
 rw [hpre] at h3
 refine ⟨⟨by rw [List.length_set]; exact h0, _, ?_, h3, ?_⟩, chg_setCells w q _ _ w, there_at ha (by omega)⟩
 ·simp only [List.size_toArray, List.length_append, hpre, hlen, List.length_drop, Array.length_toList]; omega
 ·intro i y hy j u hu
  have hj : j < 51 := by rw [← y.len]; exact (List.getElem?_eq_some_iff.1 hu).1
  rw [List.getElem?_set] at hy
  rw [List.getElem?_toArray]
  by_cases hik : k = i
  ·subst hik
   rw [if_pos rfl, if_pos (by omega)] at hy
   have : x = y := Option.some.inj hy
   subst this
   rw [List.getElem?_append_right (by omega), hpre, show k * 51 + j - k * 51 = j by omega, List.getElem?_append_left (by omega)]
   exact hu
  ·rw [if_neg hik] at hy
   have hold := hx i y hy j u hu
   rcases Nat.lt_or_ge i k with hlt | hge
   ·rw [List.getElem?_append_left (by omega), List.getElem?_take, if_pos (by omega)]
    simpa using hold
   ·rw [List.getElem?_append_right (by omega), hpre, List.getElem?_append_right (by omega), hlen, List.drop_drop, List.getElem?_drop, show k * 51 + 51 + (i * 51 + j - k * 51 - 51) = i * 51 + j by omega]
    simpa using hold
end
structure XS (c : Cfg) (w W : World) (g : Nat) (x : Vt) (hs xs : List Cg) (q7 : Nat) (ss : List Sp) (q6 : Nat) (uu : Uv) : Prop where
 vs : VS c w W g x hs xs
 ar : ArAt W q7 ss
 old : ∀ s ∈ ss, Old c hs W s
 uv : UvAt W q6 uu
 ua : UAt W uu.b uu.s uu.t
 uo : Sh.OwO eG W w.heap.size uu.v xs
 un : ∀ k, uu.v.ownBlock = some k → x.v.ownBlock ≠ some k
 tie : Tie x.s.b uu.b hs.length
 now : uu.now = x.s.t
 lo6 : w.heap.size ≤ q6
 lo7 : w.heap.size ≤ q7
theorem UAt.chgS {w w' : World} {u : U} {s p : Sl} {S : Nat → Prop} (h : UAt w u s p) (hc : Chg w w' S) (hS : ∀ b cs, At w b 46 cs → ¬ S b) : UAt w' u s p :=
 ⟨h.1.other hc.size (fun b cs hb => hc.block b hb.lt (hS b cs hb)), h.2.other hc.size (fun b cs hb => hc.block b hb.lt (hS b cs hb))⟩
section
variable {c : Cfg} {w W W' : World} {g : Nat} {x x' : Vt} {hs hs' xs xs' : List Cg} {q7 q6 : Nat} {ss : List Sp} {uu : Uv}
theorem XS.step (h : XS c w W g x hs xs q7 ss q6 uu) (hb : Below W.heap.size W W') : XS c w W' g x hs xs q7 ss q6 uu :=
 ⟨h.vs.step hb, h.ar.step hb, fun s m => (h.old s m).step hb, h.uv.step hb, h.ua.step hb, h.uo.below hb, h.un, h.tie, h.now, h.lo6, h.lo7⟩
theorem XS.other (h : XS c w W g x hs xs q7 ss q6 uu) {q : Nat} {t : TypeId} {cs : Array Value} (hc : Chg W W' (fun k => k = q)) (ha : At W q t cs) (hq : w.heap.size ≤ q) (t1 : t ≠ 82) (t3 : t ≠ 137) (t4 : t ≠ 119) (t5 : t ≠ 56) (t6 : t ≠ 70) (t7 : t ≠ 46) (n1 : x.v.ownBlock ≠ some q) (n2 : uu.v.ownBlock ≠ some q) : XS c w W' g x hs xs q7 ss q6 uu :=
 ⟨h.vs.other hc (fun k e => by subst e; exact hq) (fun e => by subst e; exact At.ne ha h.vs.vt t1 rfl) (fun k hk e => by subst e; exact n1 hk) (Off.one ha t3 t4), h.ar.chg hc (fun e => h.ar.ne ha t5 e.symm), fun s m => (h.old s m).chg hc (Off.one ha t3 t4), At.chg h.uv hc (fun e => by subst e; exact At.ne ha h.uv t6 rfl), h.ua.chgS hc (fun b cs hb e => by subst e; exact At.ne hb ha (Ne.symm t7) rfl), h.uo.chg hc (fun k hk e => by subst e; exact n2 hk), h.un, h.tie, h.now, h.lo6, h.lo7⟩
theorem XS.reads (h : XS c w W g x hs xs q7 ss q6 uu) {k : Nat} (hk : k < 3) : XS c w (W.setCells q7 (k * 51) x.s.list) g x hs xs q7 (ss.set k x.s) q6 uu ∧ W.there q7 (k * 51) 51 := by
 obtain ⟨h1, h2, h3⟩ := h.ar.set hk x.s
 have hoff := h.ar.off
 have hne : ∀ {t : TypeId} {cs : Array Value} {j : Nat}, At W j t cs → t ≠ 56 → ¬ j = q7 := fun ha ht e => h.ar.ne ha ht e
 have hown : ∀ {v : Value} {l : List Cg}, Sh.OwO eG W w.heap.size v l → ∀ j, v.ownBlock = some j → ¬ j = q7 := fun ho j hj e => by
  subst e
  obtain ⟨_, cur, _, ha, _⟩ := h.ar
  exact ho.ty ha (show eG.e ≠ _ from by decide) hj
 refine ⟨⟨h.vs.other h2 (fun j e => by subst e; exact h.lo7) (hne h.vs.vt (by decide)) (hown h.vs.ow) hoff, h1, fun s m => ?_, At.chg h.uv h2 (hne h.uv (by decide)), h.ua.chgS h2 (fun b cs hb e => hne hb (by decide) e), h.uo.chg h2 (hown h.uo), h.un, h.tie, h.now, h.lo6, h.lo7⟩, h3⟩
 rcases List.mem_or_eq_of_mem_set m with m | rfl
 ·exact (h.old s m).chg h2 hoff
 ·exact (Old.now h.vs).chg h2 hoff
structure MS (c : Cfg) (w W : World) (g : Nat) (x : Vt) (hs xs : List Cg) (q7 : Nat) (ss : List Sp) (q6 : Nat) (uu : Uv) (b0 : Bk) (hs0 xs0 : List Cg) : Prop where
 vs : VS c w W g x hs xs
 ar : ArAt W q7 ss
 old : ∀ s ∈ ss, Old c hs W s
 uv : UvAt W q6 uu
 ua : UAt W uu.b uu.s uu.t
 uo : Sh.OwO eG W w.heap.size uu.v xs0
 un : ∀ k, uu.v.ownBlock = some k → x.v.ownBlock ≠ some k
 tie : Tie b0 uu.b hs0.length
 lo6 : w.heap.size ≤ q6
 lo7 : w.heap.size ≤ q7
theorem XS.vc (h : XS c w W g x hs xs q7 ss q6 uu) (hc : VC x g W W') (hv : VS c w W' g x' hs' xs') (hh : hs' = hs ∨ ∃ z, hs' = hs ++ [z]) (hl : Lies W x.v x'.v) : MS c w W' g x' hs' xs' q7 ss q6 uu x.s.b hs xs := by
 have hnc : ∀ {v : Value} {l : List Cg}, Sh.OwO eG W w.heap.size v l → ∀ {k : Nat} {t : TypeId} {cs : Array Value}, At W k t cs → t ≠ 48 → v.ownBlock ≠ some k := fun ho _ _ _ ha ht => ho.ty ha (Ne.symm ht)
 refine ⟨hv, ?_, fun s m => ?_, h.vs.far hc h.uv (by decide) (by decide), h.ua.chgS hc (fun b cs hb e => ?_), h.uo.chg hc (fun k hk e => ?_), fun k hk e => ?_, h.tie, h.lo6, h.lo7⟩
 ·refine h.ar.chg hc (fun e => ?_)
  rcases e with e | e
  ·exact h.ar.ne h.vs.vt (by decide) e.symm
  ·obtain ⟨_, cur, _, ha, _⟩ := h.ar
   exact hnc h.vs.ow ha (by decide) e
 ·have h1 := (h.old s m).chg hc h.vs.off
  rcases hh with rfl | ⟨z, rfl⟩
  ·exact h1
  ·exact h1.more z
 ·rcases e with rfl | e
  ·exact At.ne hb h.vs.vt (by decide) rfl
  ·exact hnc h.vs.ow hb (by decide) e
 ·rcases e with rfl | e
  ·exact h.uo.ty h.vs.vt (show eG.e ≠ _ from by decide) hk
  ·exact h.un k hk e
 ·rcases hl with hl | ⟨j, hl, hj⟩
  ·rw [hl] at e; exact h.un k hk e
  ·rw [hl] at e
   injection e with e
   have := (h.uo.lt hk).2
   omega
theorem MS.step {b0 : Bk} {hs0 xs0 : List Cg} (h : MS c w W g x hs xs q7 ss q6 uu b0 hs0 xs0) (hb : Below W.heap.size W W') : MS c w W' g x hs xs q7 ss q6 uu b0 hs0 xs0 :=
 ⟨h.vs.step hb, h.ar.step hb, fun s m => (h.old s m).step hb, h.uv.step hb, h.ua.step hb, h.uo.below hb, h.un, h.tie, h.lo6, h.lo7⟩
theorem MS.same {b0 : Bk} {hs0 : List Cg} (h : MS c w W g x hs xs q7 ss q6 uu b0 hs0 xs) (hb : b0 = x.s.b) (hh : hs0 = hs) (hn : uu.now = x.s.t) : XS c w W g x hs xs q7 ss q6 uu := by
 subst hb; subst hh
 exact ⟨h.vs, h.ar, h.old, h.uv, h.ua, h.uo, h.un, h.tie, hn, h.lo6, h.lo7⟩
theorem MS.put {b0 : Bk} {hs0 xs0 : List Cg} (h : MS c w W g x hs xs q7 ss q6 uu b0 hs0 xs0) {uu' : Uv} (hc : Chg W W' (fun j => j = q6)) (hv : UvAt W' q6 uu') (ha : UAt W' uu'.b uu'.s uu'.t) (ho : Sh.OwO eG W' w.heap.size uu'.v xs) (hn : ∀ k, uu'.v.ownBlock = some k → W.heap.size ≤ k) (ht : Tie x.s.b uu'.b hs.length) (hnow : uu'.now = x.s.t) : XS c w W' g x hs xs q7 ss q6 uu' :=
 ⟨h.vs.one hc h.uv h.lo6 (by decide) (by decide) (by decide) (by decide), h.ar.chg hc (fun e => h.ar.ne h.uv (by decide) e.symm), fun s m => (h.old s m).chg hc (Off.one h.uv (by decide) (by decide)), hv, ha, ho, fun k hk e => by
  have h1 := hn k hk
  have h2 := (h.vs.ow.lt e).2
  omega, ht, hnow, h.lo6, h.lo7⟩
end
end Go.Proofs.YtplapoenhohliaaGreat
namespace Go.Proofs.YtplapoenhohliaaGreat
open Go.RowKit Go.Lib
set_option linter.unusedVariables false
set_option linter.unusedSimpArgs false
section
variable {c : Cfg} {w W W' : World} {g : Nat} {x x' : Vt} {hs hs' xs xs' : List Cg} {q7 q6 : Nat} {ss : List Sp} {uu : Uv} {q11 q13 q14 q15 : Nat} {y : Dd} {s : Sp} {d : Bk} {o' p' : Option Addr} {ch : Cg}
structure JS (c : Cfg) (w W : World) (g : Nat) (x : Vt) (hs xs : List Cg) (q7 : Nat) (ss : List Sp) (q6 : Nat) (uu : Uv) (q11 q13 q14 q15 : Nat) (y : Dd) (s : Sp) (d : Bk) (o' p' : Option Addr) (ch : Cg) : Prop where
 st : XS c w W g x hs xs q7 ss q6 uu
 dd : DdAt W q11 y
 sp : SpAt W q13 s
 bk : BkAt W q14 d o' p'
 bd : BAt W d o' p'
 cg : CgAt W q15 ch
 n1 : x.v.ownBlock ≠ some q15
 n2 : uu.v.ownBlock ≠ some q15
 lo4 : w.heap.size ≤ q14
 lo5 : w.heap.size ≤ q15
theorem JS.step (h : JS c w W g x hs xs q7 ss q6 uu q11 q13 q14 q15 y s d o' p' ch) (hb : Below W.heap.size W W') : JS c w W' g x hs xs q7 ss q6 uu q11 q13 q14 q15 y s d o' p' ch :=
 ⟨h.st.step hb, h.dd.step hb, h.sp.step hb, h.bk.step hb, h.bd.step hb, h.cg.step hb, h.n1, h.n2, h.lo4, h.lo5⟩
theorem JS.new (h : XS c w W g x hs xs q7 ss q6 uu) (hd : DdAt W q11 y) (hp : SpAt W q13 s) {W2 : World} (hb2 : Below W.heap.size W W2) (h3 : BkAt W2 W.heap.size d o' p') (h4 : CgAt W2 (W.heap.size + 1) ch) (ha : BAt W2 d o' p') : JS c w W2 g x hs xs q7 ss q6 uu q11 q13 W.heap.size (W.heap.size + 1) y s d o' p' ch := by
 have hw := h.vs.bel.size
 exact ⟨h.step hb2, hd.step hb2, hp.step hb2, h3, ha, h4, fun e => by have := (h.vs.ow.lt e).2; omega, fun e => by have := (h.uo.lt e).2; omega, hw, by omega⟩
theorem JS.putC (h : JS c w W g x hs xs q7 ss q6 uu q11 q13 q14 q15 y s d o' p' ch) (ch2 : Cg) : JS c w (W.setRow q15 ch2.cells) g x hs xs q7 ss q6 uu q11 q13 q14 q15 y s d o' p' ch2 := by
 have c2 := chg_row W q15 ch2.cells
 have f2 : Sh.Off W (fun j => j = q15) := Off.one h.cg (by decide) (by decide)
 exact ⟨h.st.other c2 h.cg h.lo5 (by decide) (by decide) (by decide) (by decide) (by decide) (by decide) h.n1 h.n2, At.chg h.dd c2 (fun e => At.ne h.dd h.cg (by decide) e), At.chg h.sp c2 (fun e => At.ne h.sp h.cg (by decide) e), At.chg h.bk c2 (fun e => At.ne h.bk h.cg (by decide) e), h.bd.chg c2 f2, At.setRow h.cg _, h.n1, h.n2, h.lo4, h.lo5⟩
theorem JS.put (h : JS c w W g x hs xs q7 ss q6 uu q11 q13 q14 q15 y s d o' p' ch) {d2 : Bk} {o2 p2 : Option Addr} (hd : BAt W d2 o2 p2) (ch2 : Cg) : JS c w ((W.setRow q14 (d2.cells o2 p2)).setRow q15 ch2.cells) g x hs xs q7 ss q6 uu q11 q13 q14 q15 y s d2 o2 p2 ch2 := by
 have c1 := chg_row W q14 (d2.cells o2 p2)
 have f1 : Sh.Off W (fun j => j = q14) := Off.one h.bk (by decide) (by decide)
 have hy : ∀ {v : Value} {l : List Cg}, Sh.OwO eG W w.heap.size v l → v.ownBlock ≠ some q14 := fun ho => ho.ty h.bk (show eG.e ≠ _ from by decide)
 have h2 : JS c w (W.setRow q14 (d2.cells o2 p2)) g x hs xs q7 ss q6 uu q11 q13 q14 q15 y s d2 o2 p2 ch := ⟨h.st.other c1 h.bk h.lo4 (by decide) (by decide) (by decide) (by decide) (by decide) (by decide) (hy h.st.vs.ow) (hy h.st.uo), At.chg h.dd c1 (fun e => At.ne h.dd h.bk (by decide) e), At.chg h.sp c1 (fun e => At.ne h.sp h.bk (by decide) e), At.setRow h.bk _, hd.chg c1 f1, At.chg h.cg c1 (fun e => At.ne h.cg h.bk (by decide) e), h.n1, h.n2, h.lo4, h.lo5⟩
 exact h2.putC ch2
structure NS (c : Cfg) (w W : World) (g : Nat) (x : Vt) (hs xs : List Cg) (q7 : Nat) (ss : List Sp) (q6 : Nat) (uu : Uv) (b0 : Bk) (hs0 xs0 : List Cg) (q11 q13 q15 : Nat) (y : Dd) (s : Sp) (ch : Cg) : Prop where
 ms : MS c w W g x hs xs q7 ss q6 uu b0 hs0 xs0
 dd : DdAt W q11 y
 sp : SpAt W q13 s
 cg : CgAt W q15 ch
theorem NS.step {b0 : Bk} {hs0 xs0 : List Cg} (h : NS c w W g x hs xs q7 ss q6 uu b0 hs0 xs0 q11 q13 q15 y s ch) (hb : Below W.heap.size W W') : NS c w W' g x hs xs q7 ss q6 uu b0 hs0 xs0 q11 q13 q15 y s ch :=
 ⟨h.ms.step hb, h.dd.step hb, h.sp.step hb, h.cg.step hb⟩
theorem NS.new (h : JS c w W g x hs xs q7 ss q6 uu q11 q13 q14 q15 y s d o' p' ch) (hc : VC x g W W') (hv : VS c w W' g x' hs' xs') (hh : hs' = hs ∨ ∃ z, hs' = hs ++ [z]) (hl : Lies W x.v x'.v) : NS c w W' g x' hs' xs' q7 ss q6 uu x.s.b hs xs q11 q13 q15 y s ch :=
 ⟨h.st.vc hc hv hh hl, h.st.vs.far hc h.dd (by decide) (by decide), h.st.vs.far hc h.sp (by decide) (by decide), h.st.vs.farC hc h.cg h.n1⟩
end
theorem who_num3 (k : Int) : ∃ N : Nat, wrap64 ((IntKind.u64.wrap k).tmod 3) = (N : Int) ∧ N < 3 := by
 have h0 : 0 ≤ IntKind.u64.wrap k := by rw [IntKind.wrap_u64]; omega
 have h1 : (IntKind.u64.wrap k).tmod 3 = IntKind.u64.wrap k % 3 := Int.tmod_eq_emod_of_nonneg h0
 have h2 : 0 ≤ IntKind.u64.wrap k % 3 ∧ IntKind.u64.wrap k % 3 < 3 := ⟨Int.emod_nonneg _ (by decide), Int.emod_lt_of_pos _ (by decide)⟩
 refine ⟨(IntKind.u64.wrap k % 3).toNat, ?_, by omega⟩
 rw [h1, IntWalk.wrap64_in _ (by omega)]
 omega
def snaps3 (s : Sp) : Array Value := (s.list ++ (s.list ++ s.list)).toArray
theorem snaps3_size (s : Sp) : (snaps3 s).size = 153 := by simp [snaps3, s.len]
theorem ArAt.new (w : World) (s : Sp) : ArAt (w.alloc (.cells (snaps3 s) 56)) w.heap.size [s, s, s] := by
 refine ⟨rfl, snaps3 s, snaps3_size s, At.new _ _ _, fun i z hz j u hu => ?_⟩
 have hj : j < 51 := by rw [← z.len]; exact (List.getElem?_eq_some_iff.1 hu).1
 have h51 := s.len
 have hzs : z = s ∧ i < 3 := by
  match i, hz with
  | 0, hz => exact ⟨(Option.some.inj hz).symm, by omega⟩
  | 1, hz => exact ⟨(Option.some.inj hz).symm, by omega⟩
  | 2, hz => exact ⟨(Option.some.inj hz).symm, by omega⟩
 obtain ⟨rfl, hi⟩ := hzs
 unfold snaps3
 rw [List.getElem?_toArray]
 match i, hi with
 | 0, _ => rw [List.getElem?_append_left (by omega)]; simpa using hu
 | 1, _ => rw [List.getElem?_append_right (by omega), List.getElem?_append_left (by omega), show 1 * 51 + j - z.list.length = j by omega]; exact hu
 | 2, _ => rw [List.getElem?_append_right (by omega), List.getElem?_append_right (by omega), show 2 * 51 + j - z.list.length - z.list.length = j by omega]; exact hu
theorem size56 (s : Sp) : (Tryz.prog.info? 56).map (·.size) = some (snaps3 s).size := by rw [snaps3_size]; kernel_rfl
theorem snaps3_one (s : Sp) : (snaps3 s).all (·.oneCell') = true := by
 rw [Array.all_eq_true']
 intro u hu
 simp only [snaps3, List.mem_toArray, List.mem_append] at hu
 rcases hu with h | h | h <;> exact s.oneL u h
end Go.Proofs.YtplapoenhohliaaGreat
