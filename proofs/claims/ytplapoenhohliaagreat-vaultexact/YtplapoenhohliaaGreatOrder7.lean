import Derived.Test.YtplapoenhohliaaGreatOrder3
import Derived.Test.YtplapoenhohliaaGreatIsb
namespace Go.Proofs.YtplapoenhohliaaGreat.AnyOrder
open Go Go.RowKit
set_option linter.unnecessarySimpa false
set_option linter.unusedSimpArgs false
set_option linter.unusedVariables false
structure St5 (ops : Array Oper) (X : Nat → Value) (M : Nat → World → Prop) (J : World → Prop) (a0 : Act) (listed : Nat → Bool) (a : Act) (w : World) : Prop where
 inv : J w
 defers : a.defers = a0.defers
 size : a.tmps.size = a0.tmps.size
 done : ∀ i d, listed i = true → dstOf ops i = some d → a.eval (.tmp d) = X i
 rest : ∀ t, (∀ i, listed i = true → dstOf ops i ≠ some t) → a.eval (.tmp t) = a0.eval (.tmp t)
 mark : ∀ i, listed i = true → M i w
section
variable {P : Program} {ops : Array Oper} {Q : Exit → Act → World → Prop}
variable {X : Nat → Value} {M : Nat → World → Prop} {J : World → Prop} {a0 : Act}
theorem St5.toSt {listed : Nat → Bool} {a : Act} {w : World} (h : St5 ops X M J a0 listed a w) : St ops (fun i v _ => v = X i) J a0 listed a w := ⟨h.inv, h.defers, h.size, h.done, h.rest⟩
theorem St5.old {listed : Nat → Bool} {a : Act} {w : World} (st : St5 ops X M J a0 listed a w) {n : Nat} (hl : ∀ j, listed j = true → j < n) (t : Tmp) (h : (List.range n).all (fun i => !(dstOf ops i == some t)) = true) : a.eval (.tmp t) = a0.eval (.tmp t) := st.toSt.old hl t h
theorem wpAny_inv5 {n : Nat} (hf : Fits2 ops n a0.tmps.size none)
  (step : ∀ (i : Nat) (o : Oper) (listed : Nat → Bool) (a : Act) (w : World), i < n → ops[i]? = some o → St5 ops X M J a0 listed a w → (∀ j, listed j = true → j < n) → (∀ e ∈ o.after, Region.binds .any e = true → listed e.on = true) →
   wpOp P ops Q i (fun a' w' => ∃ v, a' = a.put o.dst v ∧ J w' ∧ (∀ d, o.dst = some d → v = X i) ∧ ∀ j, j = i ∨ listed j = true → M j w') a w)
  (fin : ∀ a w, St5 ops X M J a0 (fun i => decide (i < n)) a w → wpList P ops Q (ops.toList.drop n) a w) :
  ∀ (fuel : Nat) (listed : Array Bool) (a : Act) (w : World), listed.size = ops.size → listed.toList.count false = fuel → (∀ i, listed.getD i false = true → i < n) →
   St5 ops X M J a0 (fun i => listed.getD i false) a w → wpAny P .any ops Q fuel listed a w := by
 have hle := hf.le
 have getb : ∀ (listed : Array Bool) (i : Nat), listed.size = ops.size → i < ops.size → ∃ b, listed[i]? = some b ∧ listed.getD i false = b ∧ listed.getD i true = b := by
  intro listed i hs hi
  have hg : listed[i]? = some listed[i] := Array.getElem?_eq_getElem (by omega)
  exact ⟨_, hg, by rw [Array.getD_eq_getD_getElem?, hg]; rfl, by rw [Array.getD_eq_getD_getElem?, hg]; rfl⟩
 have all : ∀ (fuel : Nat) (listed : Array Bool) (a : Act) (w : World), listed.size = ops.size → listed.toList.count false = fuel → (∀ i, listed.getD i false = true → i < n) → (∀ i, i < n → listed.getD i false = true) →
   St5 ops X M J a0 (fun i => listed.getD i false) a w → wpAny P .any ops Q fuel listed a w := by
  intro fuel listed a w hs hc hl hall st
  have e : listed = upTo ops n := by
   apply Array.ext_getElem?
   intro i
   by_cases hi : i < ops.size
   ·rw [upTo_get hi]
    obtain ⟨b, h1, h2, _⟩ := getb listed i hs hi
    rw [h1]
    congr 1
    cases b with
    | true => exact (decide_eq_true (hl i h2)).symm
    | false => exact (decide_eq_false (fun hn => by rw [hall i hn] at h2; cases h2)).symm
   ·rw [Array.getElem?_eq_none (by omega), Array.getElem?_eq_none (by rw [upTo_size]; omega)]
  subst e
  rw [count_upTo] at hc
  subst hc
  refine wpAny_tail2 hf _ n a w (by omega) (Nat.le_refl _) (fin a w ⟨st.inv, st.defers, st.size, fun i d hi hd => st.done i d (hall i (of_decide_eq_true hi)) hd, fun t ht => st.rest t fun i hi => ht i (decide_eq_true (hl i hi)), fun i hi => st.mark i (hall i (of_decide_eq_true hi))⟩)
 intro fuel
 induction fuel with
 | zero =>
  intro listed a w hs hc hl st
  have hall : ∀ i, i < n → listed.getD i false = true := by
   intro i hi
   have hm : listed[i]'(by omega) ∈ listed.toList := by simp
   have := List.count_eq_zero.mp hc
   cases hb : listed[i]'(by omega) with
   | true => simp [Array.getD_eq_getD_getElem?, Array.getElem?_eq_getElem (show i < listed.size by omega), hb]
   | false => rw [hb] at hm; exact absurd hm this
  exact all 0 listed a w hs hc hl hall st
 | succ fuel ih =>
  intro listed a w hs hc hl st
  by_cases hall : ∀ i, i < n → listed.getD i false = true
  ·exact all _ listed a w hs hc hl hall st
  have hex : ∃ i, i < n ∧ listed.getD i false = false := by
   apply Decidable.byContradiction
   intro hno
   apply hall
   intro i hi
   cases hb : listed.getD i false with
   | true => rfl
   | false => exact absurd ⟨i, hi, hb⟩ hno
  refine ⟨fun hr => ?_, fun i hi => ?_⟩
  ·exfalso
   apply hall
   intro i
   induction i using Nat.strongRecOn with
   | _ i ih2 =>
    intro hi
    apply Decidable.byContradiction
    intro hn
    have hno : i ∉ Region.ready .any ops listed := by rw [hr]; simp
    apply hno
    rw [mem_ready]
    obtain ⟨b, h1, h2, h3⟩ := getb listed i hs (by omega)
    refine ⟨?_, ops[i], Array.getElem?_eq_getElem (by omega), fun e he hb => ?_⟩
    ·rw [h3]; rw [h2] at hn; simpa using hn
    ·have := hf.back i ops[i] (Array.getElem?_eq_getElem (by omega)) e he hb
     exact ih2 e.on this (by omega)
  ·rw [mem_ready] at hi
   obtain ⟨hl2, o, ho, hdep⟩ := hi
   have hlt := (Array.getElem?_eq_some_iff.1 ho).1
   obtain ⟨b, hb1, hb2, hb3⟩ := getb listed i hs hlt
   rw [hb3] at hl2
   subst hl2
   by_cases hin : i < n
   ·refine wpOp_mono ?_ (step i o _ a w hin ho st hl hdep)
    rintro a' w' ⟨v, rfl, hJ, hv, hM⟩
    have e : (fun j => if j = i then true else listed.getD j false) = fun j => (listed.setIfInBounds i true).getD j false := by
     funext j
     by_cases hji : j = i
     ·subst hji; simp [Array.getD_eq_getD_getElem?, show j < listed.size by omega]
     ·simp [Array.getD_eq_getD_getElem?, hji, Ne.symm hji]
    apply ih _ _ _ (by simpa using hs)
    ·have := count_set listed.toList i (by simpa using hb1)
     rw [Array.toList_setIfInBounds]; omega
    ·intro j hj
     have := congrFun e j
     rw [hj] at this
     by_cases hji : j = i
     ·subst hji; exact hin
     ·simp only [hji, if_false] at this
      exact hl j this
    ·have hp := st.toSt.put2 hf hl (mono := fun j u hu => hu) hin ho v hJ hv
     have hm5 : ∀ j, (if j = i then true else listed.getD j false) = true → M j w' := by
      intro j hj
      apply hM j
      by_cases hji : j = i
      ·exact .inl hji
      ·simp only [hji, if_false] at hj; exact .inr hj
     have hp2 : St5 ops X M J a0 (fun j => if j = i then true else listed.getD j false) (a.put o.dst v) w' := ⟨hp.inv, hp.defers, hp.size, hp.done, hp.rest, hm5⟩
     rw [e] at hp2; exact hp2
   ·obtain ⟨j0, hj0, hjf⟩ := hex
    rcases hf.tail i o j0 (by omega) (by omega) ho with ⟨_, h1⟩ | ⟨e, he, hb, rfl⟩
    ·cases h1
    ·rw [hdep e he hb] at hjf; cases hjf
theorem finK_puts5 {w : World} {R : Act → Prop} : ∀ (xs : List Value) (os : List Oper) (vs : List Value) (a : Act), xs.length = os.length → vs.length = os.length → (∀ (i : Nat) v o, vs[i]? = some v → os[i]? = some o → v = xs.getD i undef) → finK w R (xs.map .eq) os a → R (puts os vs a)
 | [], [], _, a, _, _, _, h => h
 | x :: xs, o :: os, v :: vs, a, h1, h2, hv, h => by
  have h0 : v = x := hv 0 v o rfl rfl
  subst h0
  exact finK_puts5 xs os vs _ (by simpa using h1) (by simpa using h2) (fun i v o hv' ho' => by simpa using hv (i + 1) v o (by simpa using hv') (by simpa using ho')) h
 | [], o :: os, _, _, h1, _, _, _ => by simp at h1
 | x :: xs, [], _, _, h1, _, _, _ => by simp at h1
 | x :: xs, o :: os, [], _, _, h2, _, _ => by simp at h2
theorem fin_all5 {n : Nat} {xs : List Value} (hF : Fits2 ops n a0.tmps.size none) (hk : xs.length = n) (hnone : ∀ i, i < n → dstOf ops i = none → xs.getD i undef = undef) {R : Act → World → Prop} (a : Act) (w : World)
  (fin : finK w (fun a => R a w) (xs.map .eq) (ops.toList.take n) a0) (st : St5 ops (fun i => xs.getD i undef) M J a0 (fun i => decide (i < n)) a w) : R a w := by
 have hle := hF.le
 have hdst : ∀ (i : Nat) (o : Oper), (ops.toList.take n)[i]? = some o → i < n ∧ ops[i]? = some o := by
  intro i o ho
  have hl := (List.getElem?_eq_some_iff.1 ho).1
  rw [List.length_take] at hl
  refine ⟨by omega, ?_⟩
  rw [List.getElem?_take_of_lt (by omega)] at ho
  simpa using ho
 let vs : List Value := (ops.toList.take n).map (fun o => match o.dst with | some d => a.eval (.tmp d) | none => undef)
 have hvs : ∀ (i : Nat) (o : Oper) (d : Tmp), (ops.toList.take n)[i]? = some o → o.dst = some d → vs[i]? = some (a.eval (.tmp d)) := by
  intro i o d ho hd
  simp only [vs, List.getElem?_map, ho, Option.map_some, hd]
 have hR := finK_puts5 (R := fun a => R a w) xs (ops.toList.take n) vs a0 (by rw [List.length_take, hk]; simp; omega) (by simp [vs]) (fun i v o hv ho => by
  obtain ⟨hi, ho'⟩ := hdst i o ho
  have hdo : dstOf ops i = o.dst := by unfold dstOf; rw [ho']; rfl
  cases hod : o.dst with
  | none =>
   simp only [vs, List.getElem?_map, ho, Option.map_some, hod] at hv
   injection hv with hv
   rw [← hv]
   exact (hnone i hi (by rw [hdo, hod])).symm
  | some d =>
   rw [hvs i o d ho hod] at hv
   injection hv with hv
   subst hv
   exact st.done i d (decide_eq_true hi) (by rw [hdo, hod])) fin
 have he : puts (ops.toList.take n) vs a0 = a := by
  have hp := puts_size (ops.toList.take n) vs a0
  refine act_ext (by rw [hp.2, st.defers]) (by rw [hp.1, st.size]) fun t ht => ?_
  rw [hp.1] at ht
  by_cases hex : ∃ i, i < n ∧ dstOf ops i = some t
  ·obtain ⟨i, hi, hit⟩ := hex
   have hio : ops[i]? = some ops[i] := Array.getElem?_eq_getElem (by omega)
   have hot : ops[i].dst = some t := by unfold dstOf at hit; rw [hio] at hit; exact hit
   have hio' : (ops.toList.take n)[i]? = some ops[i] := by rw [List.getElem?_take_of_lt hi]; simpa using hio
   exact puts_at _ vs a0 i t ops[i] _ hio' hot (hvs i _ t hio' hot) ht (fun j x hj hx => by
    obtain ⟨hjn, hj'⟩ := hdst j x hj
    exact hF.uniq j i t hjn hi (by unfold dstOf; rw [hj']; exact hx) hit)
  ·rw [puts_other _ vs a0 t (fun o ho hx => by
    obtain ⟨i, hi⟩ := List.mem_iff_getElem?.1 ho
    obtain ⟨hin, hi'⟩ := hdst i o hi
    exact hex ⟨i, hin, by unfold dstOf; rw [hi']; exact hx⟩)]
   exact (st.rest t fun i hi e => hex ⟨i, of_decide_eq_true hi, e⟩).symm
 rw [he] at hR
 exact hR
def Post5 (xs : List Value) (M : Nat → World → Prop) (J : World → Prop) (listed : Nat → Bool) (i : Nat) (o : Oper) (a : Act) : Act → World → Prop :=
 fun a' w' => ∃ v, a' = a.put o.dst v ∧ J w' ∧ (∀ d, o.dst = some d → v = xs.getD i undef) ∧ ∀ j, j = i ∨ listed j = true → M j w'
theorem region_put {id : Nat} {w : World} (n : Nat) (xs : List Value) (M : Nat → World → Prop) (J : World → Prop) (hm : P.follows .mixedOrders = true)
  (hf : fits2 ops n a0.tmps.size none = true) (hk : xs.length = n) (hnone : ∀ i, i < n → dstOf ops i = none → xs.getD i undef = undef) (start : J w.drew)
  (step : ∀ (i : Nat) (o : Oper) (listed : Nat → Bool) (a : Act) (w : World), i < n → ops[i]? = some o → St5 ops (fun i => xs.getD i undef) M J a0 listed a w → (∀ j, listed j = true → j < n) → (∀ e ∈ o.after, Region.binds .any e = true → listed e.on = true) →
   wpOp P ops Q i (Post5 xs M J listed i o a) a w)
  (fin : ∀ w, J w → (∀ i, i < n → M i w) → finK w (fun a => wpList P ops Q (ops.toList.drop n) a w) (xs.map .eq) (ops.toList.take n) a0) : (Code.region id ops true).wp P Q a0 w := by
 have hF := fits2_spec hf
 refine wp_region_any hm (wpAny_inv5 (n := n) (X := fun i => xs.getD i undef) (M := M) (J := J) hF ?_ (fun a w st => fin_all5 (R := fun a w => wpList P ops Q (ops.toList.drop n) a w) hF hk hnone a w (fin w st.inv (fun i hi => st.mark i (decide_eq_true hi))) st) ops.size _ a0 _ (by simp) (by simp) ?_ ?_)
 ·intro i o listed a w hin ho st hl hdep
  exact step i o listed a w hin ho st hl hdep
 ·intro i hi
  have : (Array.replicate ops.size false).getD i false = false := by
   by_cases hi : i < ops.size <;> simp [Array.getD_eq_getD_getElem?, hi]
  rw [this] at hi; cases hi
 ·have hz : ∀ i, (Array.replicate ops.size false).getD i false = false := by
   intro i
   by_cases hi : i < ops.size <;> simp [Array.getD_eq_getD_getElem?, hi]
  exact ⟨start, rfl, rfl, (fun i d hi _ => by rw [hz] at hi; exact absurd hi (by decide)), (fun t _ => rfl), (fun i hi => by rw [hz] at hi; exact absurd hi (by decide))⟩
theorem step5_value {xs : List Value} {listed : Nat → Bool} {i : Nat} {o : Oper} {a : Act} {w : World} (ho : ops[i]? = some o) (hg : Region.wanted o (yielded ops a.tmps) = true) (v : Value)
  (hrun : (execOp a.eval o).run P w = .ok (.value v) w) (hJ : J w) (hv : v = xs.getD i undef) (hM : ∀ j, listed j = true → M j w) (hi : M i w) : wpOp P ops Q i (Post5 xs M J listed i o a) a w := by
 refine wpOp_wanted ho hg ?_
 unfold Oper.wp
 rw [hrun, Oper.upon_value]
 exact ⟨v, rfl, hJ, fun _ _ => hv, fun j hj => hj.elim (fun e => e ▸ hi) (hM j)⟩
theorem step5_store {xs : List Value} {listed : Nat → Bool} {i : Nat} {o : Oper} {a : Act} {w w' : World} (ho : ops[i]? = some o) (hg : Region.wanted o (yielded ops a.tmps) = true) (hd : o.dst = none)
  (hrun : (execOp a.eval o).run P w = .ok .skip w') (hJ : J w') (hM : ∀ j, j = i ∨ listed j = true → M j w') : wpOp P ops Q i (Post5 xs M J listed i o a) a w := by
 refine wpOp_wanted ho hg ?_
 unfold Oper.wp
 rw [hrun, Oper.upon_skip, hd]
 have h2 : ∀ d, o.dst = some d → undef = xs.getD i undef := by intro d h; rw [hd] at h; cases h
 exact ⟨undef, by rw [hd], hJ, h2, hM⟩
end
end Go.Proofs.YtplapoenhohliaaGreat.AnyOrder
namespace Go.Proofs.YtplapoenhohliaaGreat.AnyOrder
open Go Go.RowKit
set_option linter.unnecessarySimpa false
set_option linter.unusedSimpArgs false
set_option linter.unusedVariables false
section
variable {P : Program} {ops : Array Oper} {Q : Exit → Act → World → Prop} {J : World → Prop} {G : World → World → Prop} {a0 : Act} {ks : List Kind}
def PostG (ks : List Kind) (J : World → Prop) (G : World → World → Prop) (i : Nat) (o : Oper) (a : Act) (w : World) : Act → World → Prop :=
 fun a' w' => ∃ v, a' = a.put o.dst v ∧ J w' ∧ G w w' ∧ ∀ d, o.dst = some d → (kindAt ks i).holds v w'
theorem step_valueG {i : Nat} {o : Oper} {a : Act} {w w' : World} (ho : ops[i]? = some o) (hg : Region.wanted o (yielded ops a.tmps) = true) (v : Value)
  (hrun : (execOp a.eval o).run P w = .ok (.value v) w') (hJ : J w') (hG : G w w') (hv : (kindAt ks i).holds v w') :
  wpOp P ops Q i (PostG ks J G i o a w) a w := by
 refine wpOp_wanted ho hg ?_
 unfold Oper.wp
 rw [hrun, Oper.upon_value]
 exact ⟨v, rfl, hJ, hG, fun _ _ => hv⟩
end
section
variable {P : Program} {ops : Array Oper} {Q : Exit → Act → World → Prop} {J : World → Prop} {a0 : Act} {ks : List Kind}
theorem kinds_monoG {G : World → World → Prop} (keep : ∀ p w w', (Kind.of p) ∈ ks → J w → G w w' → ∀ v, p v w → p v w') (i : Nat) (v : Value) (x y : World) (hv : (kindAt ks i).holds v x) (h : J x ∧ G x y) : (kindAt ks i).holds v y := by
 have hks : kindAt ks i = (ks[i]?).getD (.of fun _ _ => True) := rfl
 cases hi : ks[i]? with
 | none => rw [hks, hi]; exact trivial
 | some k =>
  rw [hks, hi] at hv ⊢
  cases k with
  | eq x => exact hv
  | of p => exact keep p x y (List.mem_of_getElem? hi) h.1 h.2 v hv
end
end Go.Proofs.YtplapoenhohliaaGreat.AnyOrder
namespace Go.Proofs.YtplapoenhohliaaGreat.AnyOrder
open Go Go.RowKit
set_option linter.unnecessarySimpa false
set_option linter.unusedSimpArgs false
set_option linter.unusedVariables false
def fitsC (ops : Array Oper) (n size : Nat) : Bool :=
 decide (n ≤ ops.size) &&
 ((List.range n).all fun i =>
  (match dstOf ops i with
   | some d => decide (d < size) && (List.range n).all fun j => i == j || !(dstOf ops j == some d)
   | none => true)) &&
 ((List.range ops.size).all fun i => decide (i < n) || (decide (n < i) && ((ops[i]?).map (·.after.any fun e => Region.binds .any e && e.on == i - 1)).getD false) || (List.range i).all fun j => ((ops[i]?).map (·.after.any fun e => Region.binds .any e && e.on == j)).getD false) &&
 ((List.range ops.size).all fun i => ((ops[i]?).map (·.after.all fun e => !Region.binds .any e || decide (e.on < i))).getD true)
structure FitsC (ops : Array Oper) (n size : Nat) : Prop where
 le : n ≤ ops.size
 lt : ∀ i d, i < n → dstOf ops i = some d → d < size
 uniq : ∀ i j d, i < n → j < n → dstOf ops i = some d → dstOf ops j = some d → i = j
 tail : ∀ (i : Nat) (o : Oper) (j : Nat), n ≤ i → j < i → ops[i]? = some o → (∃ e ∈ o.after, Region.binds .any e = true ∧ e.on = j) ∨ (n < i ∧ ∃ e ∈ o.after, Region.binds .any e = true ∧ e.on = i - 1)
 back : ∀ (i : Nat) (o : Oper), ops[i]? = some o → ∀ e ∈ o.after, Region.binds .any e = true → e.on < i
section
variable {P : Program} {ops : Array Oper} {Q : Exit → Act → World → Prop}
variable {V : Nat → Value → World → Prop} {J : World → Prop} {G : World → World → Prop} {a0 : Act}
theorem fitsC_spec {n size : Nat} (h : fitsC ops n size = true) : FitsC ops n size := by
 unfold fitsC at h
 simp only [Bool.and_eq_true, List.all_eq_true, decide_eq_true_eq, List.mem_range, Bool.or_eq_true] at h
 obtain ⟨⟨⟨h0, h1⟩, h2⟩, h3⟩ := h
 have any : ∀ (i k : Nat) (o : Oper), ops[i]? = some o → ((ops[i]?).map (·.after.any fun e => Region.binds .any e && e.on == k)).getD false = true → ∃ e ∈ o.after, Region.binds .any e = true ∧ e.on = k := by
  intro i k o ho h
  simp only [ho, Option.map_some, Option.getD_some, ← Array.any_toList, List.any_eq_true, Bool.and_eq_true, beq_iff_eq] at h
  obtain ⟨e, he, h1, h2⟩ := h
  exact ⟨e, by simpa using he, h1, h2⟩
 refine ⟨h0, fun i d hi hd => ?_, fun i j d hi hj hd hj' => ?_, fun i o j hi hj ho => ?_, fun i o ho e he hb => ?_⟩
 ·have := h1 i hi
  rw [hd] at this
  simp only [Bool.and_eq_true, decide_eq_true_eq] at this
  exact this.1
 ·have := h1 i hi
  rw [hd] at this
  simp only [Bool.and_eq_true, List.all_eq_true, List.mem_range] at this
  have := this.2 j hj
  rw [hj'] at this
  simpa using this
 ·have hlt := (Array.getElem?_eq_some_iff.1 ho).1
  rcases h2 i hlt with (h | ⟨h4, h5⟩) | h
  ·omega
  ·exact .inr ⟨h4, any i _ o ho h5⟩
  ·exact .inl (any i j o ho (h j hj))
 ·have := h3 i (Array.getElem?_eq_some_iff.1 ho).1
  simp only [ho, Option.map_some, Option.getD_some, Array.all_eq_true_iff_forall_mem, Bool.or_eq_true, Bool.not_eq_true', decide_eq_true_eq] at this
  rcases this e he with h | h
  ·rw [hb] at h; cases h
  ·exact h
theorem St.putC {n : Nat} (hf : FitsC ops n a0.tmps.size) {listed : Nat → Bool} {a : Act} {w w' : World} (h : St ops V J a0 listed a w) (hl0 : ∀ i, listed i = true → i < n)
  (mono : ∀ i v, V i v w → V i v w') {i : Nat} {o : Oper} (hi : i < n) (ho : ops[i]? = some o) (v : Value) (hJ : J w') (hv : ∀ d, o.dst = some d → V i v w') :
  St ops V J a0 (fun j => if j = i then true else listed j) (a.put o.dst v) w' := by
 have hd : dstOf ops i = o.dst := by unfold dstOf; rw [ho]; rfl
 refine ⟨hJ, ?_, ?_, ?_, ?_⟩
 ·cases o.dst <;> exact h.defers
 ·cases o.dst with
  | none => exact h.size
  | some d => simp [Act.put]; exact h.size
 ·intro j d hj hjd
  by_cases hji : j = i
  ·subst hji
   rw [hd] at hjd
   rw [hjd, eval_put_same _ _ _ (by rw [h.size]; exact hf.lt j d hi (by rw [hd, hjd]))]
   exact hv d hjd
  ·simp only [hji, if_false] at hj
   have := mono j _ (h.done j d hj hjd)
   cases hod : o.dst with
   | none => exact this
   | some d' =>
    rw [eval_put_other _ _ _ _ (by intro e; subst e; exact hji (hf.uniq j i _ (hl0 j hj) hi hjd (by rw [hd, hod])))]
    exact this
 ·intro t ht
  have hti : o.dst ≠ some t := by have := ht i (by simp); rwa [hd] at this
  have hr := h.rest t (fun j hj => ht j (by by_cases e : j = i <;> simp [e, hj]))
  cases hod : o.dst with
  | none => exact hr
  | some d' => rw [eval_put_other _ _ _ _ (by intro e; subst e; exact hti hod)]; exact hr
theorem wpAny_tailC {n size : Nat} (hf : FitsC ops n size) : ∀ (m k : Nat) (a : Act) (w : World), k + m = ops.size → n ≤ k → wpList P ops Q (ops.toList.drop k) a w → wpAny P .any ops Q m (upTo ops k) a w := by
 intro m
 induction m with
 | zero =>
  intro k a w hk hn h
  have hd : ops.toList.drop k = [] := by apply List.drop_eq_nil_of_le; simp; omega
  rw [hd] at h
  refine ⟨?_, h⟩
  apply List.eq_nil_iff_forall_not_mem.mpr
  intro j hj
  rw [mem_ready] at hj
  obtain ⟨hj, o, ho, _⟩ := hj
  have hlt := (Array.getElem?_eq_some_iff.1 ho).1
  rw [Array.getD_eq_getD_getElem?, upTo_get hlt] at hj
  simp at hj; omega
 | succ m ih =>
  intro k a w hk hn h
  have hlt : k < ops.size := by omega
  have hok : ops[k]? = some ops[k] := Array.getElem?_eq_getElem hlt
  have hcons : ops.toList.drop k = ops[k] :: ops.toList.drop (k + 1) := by
   rw [List.drop_eq_getElem_cons (by simpa using hlt)]; simp
  refine ⟨fun hr => ?_, fun i hi => ?_⟩
  ·exfalso
   have hno : k ∉ Region.ready .any ops (upTo ops k) := by rw [hr]; simp
   apply hno
   rw [mem_ready]
   refine ⟨?_, ops[k], hok, fun e he hb => ?_⟩
   ·rw [Array.getD_eq_getD_getElem?, upTo_get hlt]; simp
   ·have := hf.back k _ hok e he hb
    rw [Array.getD_eq_getD_getElem?, upTo_get (by omega)]; simpa using this
  ·rw [mem_ready] at hi
   obtain ⟨hl, o, ho, hdep⟩ := hi
   have hil := (Array.getElem?_eq_some_iff.1 ho).1
   rw [Array.getD_eq_getD_getElem?, upTo_get hil] at hl
   have hge : k ≤ i := by simp at hl; omega
   have hik : i = k := by
    apply Decidable.byContradiction
    intro hne
    rcases hf.tail i o k (by omega) (by omega) ho with ⟨e, he, hb, rfl⟩ | ⟨h1, e, he, hb, h2⟩
    ·have := hdep e he hb
     rw [Array.getD_eq_getD_getElem?, upTo_get (by omega)] at this
     simp at this
    ·have := hdep e he hb
     rw [Array.getD_eq_getD_getElem?, upTo_get (by omega)] at this
     simp at this
     omega
   subst hik
   rw [hok] at ho
   injection ho with ho
   subst ho
   rw [hcons] at h
   rw [upTo_set hlt]
   unfold wpOp
   simp only [hok]
   simp only [wpList] at h
   split
   ·next hw =>
    rw [if_pos hw] at h
    rcases h with h | h
    ·exact .inl (Oper.wp_mono (fun a w hh => ih _ a w (by omega) (by omega) hh) h)
    ·exact .inr h
   ·next hw =>
    rw [if_neg hw] at h
    exact ih _ _ w (by omega) (by omega) h
theorem wpAny_invC {n : Nat} (hf : FitsC ops n a0.tmps.size) (mono : ∀ i v w w', V i v w → G w w' → V i v w')
  (step : ∀ (i : Nat) (o : Oper) (listed : Nat → Bool) (a : Act) (w : World), i < n → ops[i]? = some o → St ops V J a0 listed a w → (∀ j, listed j = true → j < n) → (∀ e ∈ o.after, Region.binds .any e = true → listed e.on = true) →
   wpOp P ops Q i (fun a' w' => ∃ v, a' = a.put o.dst v ∧ J w' ∧ G w w' ∧ ∀ d, o.dst = some d → V i v w') a w)
  (fin : ∀ a w, St ops V J a0 (fun i => decide (i < n)) a w → wpList P ops Q (ops.toList.drop n) a w) :
  ∀ (fuel : Nat) (listed : Array Bool) (a : Act) (w : World), listed.size = ops.size → listed.toList.count false = fuel → (∀ i, listed.getD i false = true → i < n) →
   St ops V J a0 (fun i => listed.getD i false) a w → wpAny P .any ops Q fuel listed a w := by
 have hle := hf.le
 have getb : ∀ (listed : Array Bool) (i : Nat), listed.size = ops.size → i < ops.size → ∃ b, listed[i]? = some b ∧ listed.getD i false = b ∧ listed.getD i true = b := by
  intro listed i hs hi
  have hg : listed[i]? = some listed[i] := Array.getElem?_eq_getElem (by omega)
  exact ⟨_, hg, by rw [Array.getD_eq_getD_getElem?, hg]; rfl, by rw [Array.getD_eq_getD_getElem?, hg]; rfl⟩
 have all : ∀ (fuel : Nat) (listed : Array Bool) (a : Act) (w : World), listed.size = ops.size → listed.toList.count false = fuel → (∀ i, listed.getD i false = true → i < n) → (∀ i, i < n → listed.getD i false = true) →
   St ops V J a0 (fun i => listed.getD i false) a w → wpAny P .any ops Q fuel listed a w := by
  intro fuel listed a w hs hc hl hall st
  have e : listed = upTo ops n := by
   apply Array.ext_getElem?
   intro i
   by_cases hi : i < ops.size
   ·rw [upTo_get hi]
    obtain ⟨b, h1, h2, _⟩ := getb listed i hs hi
    rw [h1]
    congr 1
    cases b with
    | true => exact (decide_eq_true (hl i h2)).symm
    | false => exact (decide_eq_false (fun hn => by rw [hall i hn] at h2; cases h2)).symm
   ·rw [Array.getElem?_eq_none (by omega), Array.getElem?_eq_none (by rw [upTo_size]; omega)]
  subst e
  rw [count_upTo] at hc
  subst hc
  refine wpAny_tailC hf _ n a w (by omega) (Nat.le_refl _) (fin a w ⟨st.inv, st.defers, st.size, fun i d hi hd => st.done i d (hall i (of_decide_eq_true hi)) hd, fun t ht => st.rest t fun i hi => ht i (decide_eq_true (hl i hi))⟩)
 intro fuel
 induction fuel with
 | zero =>
  intro listed a w hs hc hl st
  have hall : ∀ i, i < n → listed.getD i false = true := by
   intro i hi
   have hm : listed[i]'(by omega) ∈ listed.toList := by simp
   have := List.count_eq_zero.mp hc
   cases hb : listed[i]'(by omega) with
   | true => simp [Array.getD_eq_getD_getElem?, Array.getElem?_eq_getElem (show i < listed.size by omega), hb]
   | false => rw [hb] at hm; exact absurd hm this
  exact all 0 listed a w hs hc hl hall st
 | succ fuel ih =>
  intro listed a w hs hc hl st
  by_cases hall : ∀ i, i < n → listed.getD i false = true
  ·exact all _ listed a w hs hc hl hall st
  have hex : ∃ i, i < n ∧ listed.getD i false = false := by
   apply Decidable.byContradiction
   intro hno
   apply hall
   intro i hi
   cases hb : listed.getD i false with
   | true => rfl
   | false => exact absurd ⟨i, hi, hb⟩ hno
  refine ⟨fun hr => ?_, fun i hi => ?_⟩
  ·exfalso
   apply hall
   intro i
   induction i using Nat.strongRecOn with
   | _ i ih2 =>
    intro hi
    apply Decidable.byContradiction
    intro hn
    have hno : i ∉ Region.ready .any ops listed := by rw [hr]; simp
    apply hno
    rw [mem_ready]
    obtain ⟨b, h1, h2, h3⟩ := getb listed i hs (by omega)
    refine ⟨?_, ops[i], Array.getElem?_eq_getElem (by omega), fun e he hb => ?_⟩
    ·rw [h3]; rw [h2] at hn; simpa using hn
    ·have := hf.back i ops[i] (Array.getElem?_eq_getElem (by omega)) e he hb
     exact ih2 e.on this (by omega)
  ·rw [mem_ready] at hi
   obtain ⟨hl2, o, ho, hdep⟩ := hi
   have hlt := (Array.getElem?_eq_some_iff.1 ho).1
   obtain ⟨b, hb1, hb2, hb3⟩ := getb listed i hs hlt
   rw [hb3] at hl2
   subst hl2
   by_cases hin : i < n
   ·refine wpOp_mono ?_ (step i o _ a w hin ho st hl hdep)
    rintro a' w' ⟨v, rfl, hJ, hG, hv⟩
    have e : (fun j => if j = i then true else listed.getD j false) = fun j => (listed.setIfInBounds i true).getD j false := by
     funext j
     by_cases hji : j = i
     ·subst hji; simp [Array.getD_eq_getD_getElem?, show j < listed.size by omega]
     ·simp [Array.getD_eq_getD_getElem?, hji, Ne.symm hji]
    apply ih _ _ _ (by simpa using hs)
    ·have := count_set listed.toList i (by simpa using hb1)
     rw [Array.toList_setIfInBounds]; omega
    ·intro j hj
     have := congrFun e j
     rw [hj] at this
     by_cases hji : j = i
     ·subst hji; exact hin
     ·simp only [hji, if_false] at this
      exact hl j this
    ·have hp := st.putC hf hl (mono := fun j u hu => mono j u w w' hu hG) hin ho v hJ hv
     rw [e] at hp; exact hp
   ·obtain ⟨j0, hj0, hjf⟩ := hex
    rcases hf.tail i o j0 (by omega) (by omega) ho with ⟨e, he, hb, rfl⟩ | ⟨h1, e, he, hb, h2⟩
    ·rw [hdep e he hb] at hjf; cases hjf
    ·have h3 := hl _ (hdep e he hb)
     omega
end
section
variable {P : Program} {ops : Array Oper} {Q : Exit → Act → World → Prop} {J : World → Prop} {a0 : Act} {ks : List Kind}
theorem fin_allC {n : Nat} (hF : FitsC ops n a0.tmps.size) (hk : ks.length = n) (hd : (ops.toList.take n).all (fun o => o.dst.isSome) = true) {R : Act → World → Prop}
  (fin : ∀ w, J w → finK w (fun a => R a w) ks (ops.toList.take n) a0) (a : Act) (w : World) (st : St ops (fun i v w => (kindAt ks i).holds v w) J a0 (fun i => decide (i < n)) a w) : R a w := by
 have hle := hF.le
 have hdst : ∀ (i : Nat) (o : Oper), (ops.toList.take n)[i]? = some o → i < n ∧ ops[i]? = some o := by
  intro i o ho
  have hl := (List.getElem?_eq_some_iff.1 ho).1
  rw [List.length_take] at hl
  refine ⟨by omega, ?_⟩
  rw [List.getElem?_take_of_lt (by omega)] at ho
  simpa using ho
 have hsome : ∀ o ∈ ops.toList.take n, o.dst ≠ none := by
  intro o ho e
  have := List.all_eq_true.1 hd o ho
  rw [e] at this; cases this
 let vs : List Value := (ops.toList.take n).map (fun o => match o.dst with | some d => a.eval (.tmp d) | none => undef)
 have hvs : ∀ (i : Nat) (o : Oper) (d : Tmp), (ops.toList.take n)[i]? = some o → o.dst = some d → vs[i]? = some (a.eval (.tmp d)) := by
  intro i o d ho hd
  simp only [vs, List.getElem?_map, ho, Option.map_some, hd]
 have hR := finK_puts ks (ops.toList.take n) vs a0 (by rw [List.length_take, hk]; simp; omega) (by simp [vs]) (fun i v o hv ho => by
  obtain ⟨hi, ho'⟩ := hdst i o ho
  cases hod : o.dst with
  | none => exact .inr rfl
  | some d =>
   rw [hvs i o d ho hod] at hv
   injection hv with hv
   subst hv
   exact .inl (st.done i d (decide_eq_true hi) (by unfold dstOf; rw [ho']; exact hod))) (fin w st.inv) hsome
 have he : puts (ops.toList.take n) vs a0 = a := by
  have hp := puts_size (ops.toList.take n) vs a0
  refine act_ext (by rw [hp.2, st.defers]) (by rw [hp.1, st.size]) fun t ht => ?_
  rw [hp.1] at ht
  by_cases hex : ∃ i, i < n ∧ dstOf ops i = some t
  ·obtain ⟨i, hi, hit⟩ := hex
   have hio : ops[i]? = some ops[i] := Array.getElem?_eq_getElem (by omega)
   have hot : ops[i].dst = some t := by unfold dstOf at hit; rw [hio] at hit; exact hit
   have hio' : (ops.toList.take n)[i]? = some ops[i] := by rw [List.getElem?_take_of_lt hi]; simpa using hio
   exact puts_at _ vs a0 i t ops[i] _ hio' hot (hvs i _ t hio' hot) ht (fun j x hj hx => by
    obtain ⟨hjn, hj'⟩ := hdst j x hj
    exact hF.uniq j i t hjn hi (by unfold dstOf; rw [hj']; exact hx) hit)
  ·rw [puts_other _ vs a0 t (fun o ho hx => by
    obtain ⟨i, hi⟩ := List.mem_iff_getElem?.1 ho
    obtain ⟨hin, hi'⟩ := hdst i o hi
    exact hex ⟨i, hin, by unfold dstOf; rw [hi']; exact hx⟩)]
   exact (st.rest t fun i hi e => hex ⟨i, of_decide_eq_true hi, e⟩).symm
 rw [he] at hR
 exact hR
theorem region_kindsC {id : Nat} {w : World} (n : Nat) (ks : List Kind) (J : World → Prop) (G : World → World → Prop) (hm : P.follows .mixedOrders = true)
  (hf : fitsC ops n a0.tmps.size = true) (hk : ks.length = n) (hd : (ops.toList.take n).all (fun o => o.dst.isSome) = true) (start : J w.drew)
  (keep : ∀ p w w', (Kind.of p) ∈ ks → J w → G w w' → ∀ v, p v w → p v w')
  (step : ∀ (i : Nat) (o : Oper) (listed : Nat → Bool) (a : Act) (w : World), i < n → ops[i]? = some o → StK ops ks J a0 listed a w → (∀ j, listed j = true → j < n) → (∀ e ∈ o.after, Region.binds .any e = true → listed e.on = true) →
   wpOp P ops Q i (PostG ks J G i o a w) a w)
  (fin : ∀ w, J w → finK w (fun a => wpList P ops Q (ops.toList.drop n) a w) ks (ops.toList.take n) a0) : (Code.region id ops true).wp P Q a0 w := by
 have hF := fitsC_spec hf
 refine wp_region_any hm (wpAny_invC (n := n) (V := fun i v w => (kindAt ks i).holds v w) (J := J) (G := fun x y => J x ∧ G x y) hF (fun i v x y hv h => kinds_monoG keep i v x y hv h) ?_ (fun a w st => fin_allC hF hk hd fin a w st) ops.size _ a0 _ (by simp) (by simp) ?_ (start_st start))
 ·intro i o listed a w hin ho st hl hdep
  exact wpOp_mono (fun a' w' ⟨v, h1, h2, h3, h4⟩ => ⟨v, h1, h2, ⟨st.inv, h3⟩, h4⟩) (step i o listed a w hin ho st hl hdep)
 ·intro i hi
  have : (Array.replicate ops.size false).getD i false = false := by
   by_cases hi : i < ops.size <;> simp [Array.getD_eq_getD_getElem?, hi]
  rw [this] at hi; cases hi
end
end Go.Proofs.YtplapoenhohliaaGreat.AnyOrder
