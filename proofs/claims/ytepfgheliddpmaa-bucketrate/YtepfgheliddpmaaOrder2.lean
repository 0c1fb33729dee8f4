/- Two laws more on a region that draws its order: only edges that bind count; and a region whose one store need not wait for the last value (an extract) of what it stores. No Go text. -/
import Derived.Test.YtepfgheliddpmaaOrder
namespace Go.Proofs.Ytepfgheliddpmaa.AnyOrder
open Go Go.RowKit
set_option linter.unnecessarySimpa false
set_option linter.unusedSimpArgs false
set_option linter.unusedVariables false

/-- the first n: no two write one slot, each slot is there, none waits for a later one; the others wait for all that stand ahead of them, but the first of them need not wait for f -/
def fits2 (ops : Array Oper) (n size : Nat) (f : Option Nat) : Bool :=
  decide (n ≤ ops.size) &&
  ((List.range n).all fun i =>
    (match dstOf ops i with
      | some d => decide (d < size) && (List.range n).all fun j => i == j || !(dstOf ops j == some d)
      | none => true)) &&
  ((List.range ops.size).all fun i => decide (i < n) || (List.range i).all fun j => (i == n && f == some j) || ((ops[i]?).map (·.after.any fun e => Region.binds .any e && e.on == j)).getD false) &&
  ((List.range ops.size).all fun i => ((ops[i]?).map (·.after.all fun e => !Region.binds .any e || decide (e.on < i))).getD true)
structure Fits2 (ops : Array Oper) (n size : Nat) (f : Option Nat) : Prop where
  le : n ≤ ops.size
  lt : ∀ i d, i < n → dstOf ops i = some d → d < size
  uniq : ∀ i j d, i < n → j < n → dstOf ops i = some d → dstOf ops j = some d → i = j
  tail : ∀ (i : Nat) (o : Oper) (j : Nat), n ≤ i → j < i → ops[i]? = some o → (i = n ∧ f = some j) ∨ ∃ e ∈ o.after, Region.binds .any e = true ∧ e.on = j
  back : ∀ (i : Nat) (o : Oper), ops[i]? = some o → ∀ e ∈ o.after, Region.binds .any e = true → e.on < i
section
variable {P : Program} {ops : Array Oper} {Q : Exit → Act → World → Prop}
variable {V : Nat → Value → World → Prop} {J : World → Prop} {G : World → World → Prop} {a0 : Act} {f : Option Nat}
theorem fits2_spec {n size : Nat} (h : fits2 ops n size f = true) : Fits2 ops n size f := by
  unfold fits2 at h
  simp only [Bool.and_eq_true, List.all_eq_true, decide_eq_true_eq, List.mem_range, Bool.or_eq_true] at h
  obtain ⟨⟨⟨h0, h1⟩, h2⟩, h3⟩ := h
  refine ⟨h0, fun i d hi hd => ?_, fun i j d hi hj hd hj' => ?_, fun i o j hi hj ho => ?_, fun i o ho e he hb => ?_⟩
  · have := h1 i hi
    rw [hd] at this
    simp only [Bool.and_eq_true, decide_eq_true_eq] at this
    exact this.1
  · have := h1 i hi
    rw [hd] at this
    simp only [Bool.and_eq_true, List.all_eq_true, List.mem_range] at this
    have := this.2 j hj
    rw [hj'] at this
    simpa using this
  · have hlt := (Array.getElem?_eq_some_iff.1 ho).1
    rcases h2 i hlt with h | h
    · omega
    · rcases h j hj with h | h
      · left; simpa using h
      · right
        simp only [ho, Option.map_some, Option.getD_some, ← Array.any_toList, List.any_eq_true, Bool.and_eq_true, beq_iff_eq] at h
        obtain ⟨e, he, h1, h2⟩ := h
        exact ⟨e, by simpa using he, h1, h2⟩
  · have := h3 i (Array.getElem?_eq_some_iff.1 ho).1
    simp only [ho, Option.map_some, Option.getD_some, Array.all_eq_true_iff_forall_mem, Bool.or_eq_true, Bool.not_eq_true', decide_eq_true_eq] at this
    rcases this e he with h | h
    · rw [hb] at h; cases h
    · exact h

theorem St.put2 {n : Nat} (hf : Fits2 ops n a0.tmps.size f) {listed : Nat → Bool} {a : Act} {w w' : World} (h : St ops V J a0 listed a w) (hl0 : ∀ i, listed i = true → i < n)
    (mono : ∀ i v, V i v w → V i v w') {i : Nat} {o : Oper} (hi : i < n) (ho : ops[i]? = some o) (v : Value) (hJ : J w') (hv : ∀ d, o.dst = some d → V i v w') :
    St ops V J a0 (fun j => if j = i then true else listed j) (a.put o.dst v) w' := by
  have hd : dstOf ops i = o.dst := by unfold dstOf; rw [ho]; rfl
  refine ⟨hJ, ?_, ?_, ?_, ?_⟩
  · cases o.dst <;> exact h.defers
  · cases o.dst with
    | none => exact h.size
    | some d => simp [Act.put]; exact h.size
  · intro j d hj hjd
    by_cases hji : j = i
    · subst hji
      rw [hd] at hjd
      rw [hjd, eval_put_same _ _ _ (by rw [h.size]; exact hf.lt j d hi (by rw [hd, hjd]))]
      exact hv d hjd
    · simp only [hji, if_false] at hj
      have := mono j _ (h.done j d hj hjd)
      cases hod : o.dst with
      | none => exact this
      | some d' =>
        rw [eval_put_other _ _ _ _ (by intro e; subst e; exact hji (hf.uniq j i _ (hl0 j hj) hi hjd (by rw [hd, hod])))]
        exact this
  · intro t ht
    have hti : o.dst ≠ some t := by have := ht i (by simp); rwa [hd] at this
    have hr := h.rest t (fun j hj => ht j (by by_cases e : j = i <;> simp [e, hj]))
    cases hod : o.dst with
    | none => exact hr
    | some d' => rw [eval_put_other _ _ _ _ (by intro e; subst e; exact hti hod)]; exact hr

/-- the tail, from a place on where all that stands ahead is waited for -/
theorem wpAny_tail2 {n size : Nat} (hf : Fits2 ops n size f) : ∀ (m k : Nat) (a : Act) (w : World), k + m = ops.size → n ≤ k → wpList P ops Q (ops.toList.drop k) a w → wpAny P .any ops Q m (upTo ops k) a w := by
  intro m
  induction m with
  | zero =>
    intro k a w hk hn h
    have hd : ops.toList.drop k = [] := by apply List.drop_eq_nil_of_le; simp; omega
    rw [hd] at h
    refine ⟨?_, h⟩
    apply List.eq_nil_iff_forall_not_mem.mpr
    intro j hj
    rw [mem_ready] at hj
    obtain ⟨hj, o, ho, _⟩ := hj
    have hlt := (Array.getElem?_eq_some_iff.1 ho).1
    rw [Array.getD_eq_getD_getElem?, upTo_get hlt] at hj
    simp at hj; omega
  | succ m ih =>
    intro k a w hk hn h
    have hlt : k < ops.size := by omega
    have hok : ops[k]? = some ops[k] := Array.getElem?_eq_getElem hlt
    have hcons : ops.toList.drop k = ops[k] :: ops.toList.drop (k + 1) := by
      rw [List.drop_eq_getElem_cons (by simpa using hlt)]; simp
    refine ⟨fun hr => ?_, fun i hi => ?_⟩
    · exfalso
      have hno : k ∉ Region.ready .any ops (upTo ops k) := by rw [hr]; simp
      apply hno
      rw [mem_ready]
      refine ⟨?_, ops[k], hok, fun e he hb => ?_⟩
      · rw [Array.getD_eq_getD_getElem?, upTo_get hlt]; simp
      · have := hf.back k _ hok e he hb
        rw [Array.getD_eq_getD_getElem?, upTo_get (by omega)]; simpa using this
    · rw [mem_ready] at hi
      obtain ⟨hl, o, ho, hdep⟩ := hi
      have hil := (Array.getElem?_eq_some_iff.1 ho).1
      rw [Array.getD_eq_getD_getElem?, upTo_get hil] at hl
      have hge : k ≤ i := by simp at hl; omega
      have hik : i = k := by
        apply Decidable.byContradiction
        intro hne
        rcases hf.tail i o k (by omega) (by omega) ho with ⟨h1, _⟩ | ⟨e, he, hb, rfl⟩
        · omega
        · have := hdep e he hb
          rw [Array.getD_eq_getD_getElem?, upTo_get (by omega)] at this
          simp at this
      subst hik
      rw [hok] at ho
      injection ho with ho
      subst ho
      rw [hcons] at h
      rw [upTo_set hlt]
      unfold wpOp
      simp only [hok]
      simp only [wpList] at h
      split
      · next hw =>
        rw [if_pos hw] at h
        rcases h with h | h
        · exact .inl (Oper.wp_mono (fun a w hh => ih _ a w (by omega) (by omega) hh) h)
        · exact .inr h
      · next hw =>
        rw [if_neg hw] at h
        exact ih _ _ w (by omega) (by omega) h

theorem count_upTo (n : Nat) : (upTo ops n).toList.count false = ops.size - n := by
  unfold upTo
  rw [List.toList_toArray]
  have : ∀ m, (List.map (fun i => decide (i < n)) (List.range m)).count false = m - n := by
    intro m
    induction m with
    | zero => simp
    | succ m ih =>
      rw [List.range_succ, List.map_append, List.count_append, ih]
      by_cases hm : m < n
      · simp [hm]; omega
      · simp [hm]; omega
  exact this _

/-- all but i of the first n are done -/
def butOne (ops : Array Oper) (n i : Nat) : Array Bool := (upTo ops n).setIfInBounds i false
theorem wpAny_inv2 {n : Nat} (hf : Fits2 ops n a0.tmps.size f) (mono : ∀ i v w w', V i v w → G w w' → V i v w')
    (step : ∀ (i : Nat) (o : Oper) (listed : Nat → Bool) (a : Act) (w : World), i < n → ops[i]? = some o → St ops V J a0 listed a w → (∀ j, listed j = true → j < n) → (∀ e ∈ o.after, Region.binds .any e = true → listed e.on = true) →
      wpOp P ops Q i (fun a' w' => ∃ v, a' = a.put o.dst v ∧ J w' ∧ G w w' ∧ ∀ d, o.dst = some d → V i v w') a w)
    (fin : ∀ a w, St ops V J a0 (fun i => decide (i < n)) a w → wpList P ops Q (ops.toList.drop n) a w)
    (early : ∀ i a w, f = some i → i < n → n < ops.size → St ops V J a0 (fun j => (butOne ops n i).getD j false) a w → wpOp P ops Q n (wpAny P .any ops Q (ops.size - n) ((butOne ops n i).setIfInBounds n true)) a w) :
    ∀ (fuel : Nat) (listed : Array Bool) (a : Act) (w : World), listed.size = ops.size → listed.toList.count false = fuel → (∀ i, listed.getD i false = true → i < n) →
      St ops V J a0 (fun i => listed.getD i false) a w → wpAny P .any ops Q fuel listed a w := by
  have hle := hf.le
  have getb : ∀ (listed : Array Bool) (i : Nat), listed.size = ops.size → i < ops.size → ∃ b, listed[i]? = some b ∧ listed.getD i false = b ∧ listed.getD i true = b := by
    intro listed i hs hi
    have hg : listed[i]? = some listed[i] := Array.getElem?_eq_getElem (by omega)
    exact ⟨_, hg, by rw [Array.getD_eq_getD_getElem?, hg]; rfl, by rw [Array.getD_eq_getD_getElem?, hg]; rfl⟩
  have all : ∀ (fuel : Nat) (listed : Array Bool) (a : Act) (w : World), listed.size = ops.size → listed.toList.count false = fuel → (∀ i, listed.getD i false = true → i < n) → (∀ i, i < n → listed.getD i false = true) →
      St ops V J a0 (fun i => listed.getD i false) a w → wpAny P .any ops Q fuel listed a w := by
    intro fuel listed a w hs hc hl hall st
    have e : listed = upTo ops n := by
      apply Array.ext_getElem?
      intro i
      by_cases hi : i < ops.size
      · rw [upTo_get hi]
        obtain ⟨b, h1, h2, _⟩ := getb listed i hs hi
        rw [h1]
        congr 1
        cases b with
        | true => exact (decide_eq_true (hl i h2)).symm
        | false => exact (decide_eq_false (fun hn => by rw [hall i hn] at h2; cases h2)).symm
      · rw [Array.getElem?_eq_none (by omega), Array.getElem?_eq_none (by rw [upTo_size]; omega)]
    subst e
    rw [count_upTo] at hc
    subst hc
    refine wpAny_tail2 hf _ n a w (by omega) (Nat.le_refl _) (fin a w ⟨st.inv, st.defers, st.size, fun i d hi hd => st.done i d (hall i (of_decide_eq_true hi)) hd, fun t ht => st.rest t fun i hi => ht i (decide_eq_true (hl i hi))⟩)
  intro fuel
  induction fuel with
  | zero =>
    intro listed a w hs hc hl st
    have hall : ∀ i, i < n → listed.getD i false = true := by
      intro i hi
      have hm : listed[i]'(by omega) ∈ listed.toList := by simp
      have := List.count_eq_zero.mp hc
      cases hb : listed[i]'(by omega) with
      | true => simp [Array.getD_eq_getD_getElem?, Array.getElem?_eq_getElem (show i < listed.size by omega), hb]
      | false => rw [hb] at hm; exact absurd hm this
    exact all 0 listed a w hs hc hl hall st
  | succ fuel ih =>
    intro listed a w hs hc hl st
    by_cases hall : ∀ i, i < n → listed.getD i false = true
    · exact all _ listed a w hs hc hl hall st
    have hex : ∃ i, i < n ∧ listed.getD i false = false := by
      apply Decidable.byContradiction
      intro hno
      apply hall
      intro i hi
      cases hb : listed.getD i false with
      | true => rfl
      | false => exact absurd ⟨i, hi, hb⟩ hno
    refine ⟨fun hr => ?_, fun i hi => ?_⟩
    · exfalso
      apply hall
      intro i
      induction i using Nat.strongRecOn with
      | _ i ih2 =>
        intro hi
        apply Decidable.byContradiction
        intro hn
        have hno : i ∉ Region.ready .any ops listed := by rw [hr]; simp
        apply hno
        rw [mem_ready]
        obtain ⟨b, h1, h2, h3⟩ := getb listed i hs (by omega)
        refine ⟨?_, ops[i], Array.getElem?_eq_getElem (by omega), fun e he hb => ?_⟩
        · rw [h3]; rw [h2] at hn; simpa using hn
        · have := hf.back i ops[i] (Array.getElem?_eq_getElem (by omega)) e he hb
          exact ih2 e.on this (by omega)
    · rw [mem_ready] at hi
      obtain ⟨hl2, o, ho, hdep⟩ := hi
      have hlt := (Array.getElem?_eq_some_iff.1 ho).1
      obtain ⟨b, hb1, hb2, hb3⟩ := getb listed i hs hlt
      rw [hb3] at hl2
      subst hl2
      by_cases hin : i < n
      · refine wpOp_mono ?_ (step i o _ a w hin ho st hl hdep)
        rintro a' w' ⟨v, rfl, hJ, hG, hv⟩
        have e : (fun j => if j = i then true else listed.getD j false) = fun j => (listed.setIfInBounds i true).getD j false := by
          funext j
          by_cases hji : j = i
          · subst hji; simp [Array.getD_eq_getD_getElem?, show j < listed.size by omega]
          · simp [Array.getD_eq_getD_getElem?, hji, Ne.symm hji]
        apply ih _ _ _ (by simpa using hs)
        · have := count_set listed.toList i (by simpa using hb1)
          rw [Array.toList_setIfInBounds]; omega
        · intro j hj
          have := congrFun e j
          rw [hj] at this
          by_cases hji : j = i
          · subst hji; exact hin
          · simp only [hji, if_false] at this
            exact hl j this
        · have hp := st.put2 hf hl (mono := fun j u hu => mono j u w w' hu hG) hin ho v hJ hv
          rw [e] at hp; exact hp
      · obtain ⟨j0, hj0, hjf⟩ := hex
        have hil : i = n := by
          apply Decidable.byContradiction
          intro hne
          rcases hf.tail i o j0 (by omega) (by omega) ho with ⟨h1, _⟩ | ⟨e, he, hb, rfl⟩
          · omega
          · rw [hdep e he hb] at hjf; cases hjf
        subst hil
        have hf0 : f = some j0 := by
          rcases hf.tail i o j0 (Nat.le_refl _) hj0 ho with ⟨_, h1⟩ | ⟨e, he, hb, rfl⟩
          · exact h1
          · rw [hdep e he hb] at hjf; cases hjf
        have hoth : ∀ j, j < i → j ≠ j0 → listed.getD j false = true := by
          intro j hj hne
          rcases hf.tail i o j (Nat.le_refl _) hj ho with ⟨_, h1⟩ | ⟨e, he, hb, rfl⟩
          · rw [hf0] at h1; injection h1 with h1; exact absurd h1.symm hne
          · exact hdep e he hb
        have e : listed = butOne ops i j0 := by
          apply Array.ext_getElem?
          intro k
          unfold butOne
          rw [Array.getElem?_setIfInBounds, upTo_size]
          by_cases hk : k < ops.size
          · obtain ⟨b, h1, h2, _⟩ := getb listed k hs hk
            rw [h1, upTo_get hk]
            by_cases hkj : j0 = k
            · subst hkj; rw [hjf] at h2; subst h2; simp [hk]
            · simp only [hkj, if_false]
              congr 1
              by_cases hki : k < i
              · rw [hoth k hki (Ne.symm hkj)] at h2; subst h2; exact (decide_eq_true hki).symm
              · cases b with
                | true => exact absurd (hl k h2) hki
                | false => exact (decide_eq_false hki).symm
          · rw [Array.getElem?_eq_none (by omega), Array.getElem?_eq_none (by rw [upTo_size]; omega)]
            by_cases hkj : j0 = k
            · subst hkj; omega
            · simp [hkj]
        have hfu : fuel = ops.size - i := by
          have hset : listed.setIfInBounds j0 true = upTo ops i := by
            rw [e]; unfold butOne
            apply Array.ext_getElem?
            intro k
            rw [Array.getElem?_setIfInBounds, Array.getElem?_setIfInBounds]
            by_cases hkj : j0 = k
            · subst hkj
              rw [upTo_get (show j0 < ops.size by omega), if_pos rfl, if_pos (by rw [Array.size_setIfInBounds, upTo_size]; omega), decide_eq_true hj0]
            · simp [hkj]
          obtain ⟨b, h1, h2, _⟩ := getb listed j0 hs (by omega)
          rw [hjf] at h2
          subst h2
          have := count_set listed.toList j0 (by simpa using h1)
          rw [← Array.toList_setIfInBounds, hset, count_upTo] at this
          omega
        subst hfu
        rw [e] at st ⊢
        exact early j0 a w hf0 hj0 hlt st
end

section
variable {P : Program} {ops : Array Oper} {Q : Exit → Act → World → Prop} {J : World → Prop} {a0 : Act} {ks : List Kind}
theorem start_st {w : World} (hJ : J w.drew) : St ops (fun i v w => (kindAt ks i).holds v w) J a0 (fun i => (Array.replicate ops.size false).getD i false) a0 w.drew := by
  have hz : ∀ i, (Array.replicate ops.size false).getD i false = false := by
    intro i
    by_cases hi : i < ops.size <;> simp [Array.getD_eq_getD_getElem?, hi]
  exact ⟨hJ, rfl, rfl, (fun i d hi _ => by rw [hz] at hi; exact absurd hi (by decide)), fun t _ => rfl⟩
theorem kinds_mono (keep : ∀ p w w', (Kind.of p) ∈ ks → J w → Below w.heap.size w w' → ∀ v, p v w → p v w') (i : Nat) (v : Value) (x y : World) (hv : (kindAt ks i).holds v x) (h : J x ∧ Below x.heap.size x y) : (kindAt ks i).holds v y := by
  have hks : kindAt ks i = (ks[i]?).getD (.of fun _ _ => True) := rfl
  cases hi : ks[i]? with
  | none => rw [hks, hi]; exact trivial
  | some k =>
    rw [hks, hi] at hv ⊢
    cases k with
    | eq x => exact hv
    | of p => exact keep p x y (List.mem_of_getElem? hi) h.1 h.2 v hv
/-- what is known behind the first n, in the text's order -/
theorem fin_all {n : Nat} {f : Option Nat} (hF : Fits2 ops n a0.tmps.size f) (hk : ks.length = n) (hd : (ops.toList.take n).all (fun o => o.dst.isSome) = true) {R : Act → World → Prop}
    (fin : ∀ w, J w → finK w (fun a => R a w) ks (ops.toList.take n) a0) (a : Act) (w : World) (st : St ops (fun i v w => (kindAt ks i).holds v w) J a0 (fun i => decide (i < n)) a w) : R a w := by
  have hle := hF.le
  have hdst : ∀ (i : Nat) (o : Oper), (ops.toList.take n)[i]? = some o → i < n ∧ ops[i]? = some o := by
    intro i o ho
    have hl := (List.getElem?_eq_some_iff.1 ho).1
    rw [List.length_take] at hl
    refine ⟨by omega, ?_⟩
    rw [List.getElem?_take_of_lt (by omega)] at ho
    simpa using ho
  have hsome : ∀ o ∈ ops.toList.take n, o.dst ≠ none := by
    intro o ho e
    have := List.all_eq_true.1 hd o ho
    rw [e] at this; cases this
  let vs : List Value := (ops.toList.take n).map (fun o => match o.dst with | some d => a.eval (.tmp d) | none => undef)
  have hvs : ∀ (i : Nat) (o : Oper) (d : Tmp), (ops.toList.take n)[i]? = some o → o.dst = some d → vs[i]? = some (a.eval (.tmp d)) := by
    intro i o d ho hd
    simp only [vs, List.getElem?_map, ho, Option.map_some, hd]
  have hR := finK_puts ks (ops.toList.take n) vs a0 (by rw [List.length_take, hk]; simp; omega) (by simp [vs]) (fun i v o hv ho => by
    obtain ⟨hi, ho'⟩ := hdst i o ho
    cases hod : o.dst with
    | none => exact .inr rfl
    | some d =>
      rw [hvs i o d ho hod] at hv
      injection hv with hv
      subst hv
      exact .inl (st.done i d (decide_eq_true hi) (by unfold dstOf; rw [ho']; exact hod))) (fin w st.inv) hsome
  have he : puts (ops.toList.take n) vs a0 = a := by
    have hp := puts_size (ops.toList.take n) vs a0
    refine act_ext (by rw [hp.2, st.defers]) (by rw [hp.1, st.size]) fun t ht => ?_
    rw [hp.1] at ht
    by_cases hex : ∃ i, i < n ∧ dstOf ops i = some t
    · obtain ⟨i, hi, hit⟩ := hex
      have hio : ops[i]? = some ops[i] := Array.getElem?_eq_getElem (by omega)
      have hot : ops[i].dst = some t := by unfold dstOf at hit; rw [hio] at hit; exact hit
      have hio' : (ops.toList.take n)[i]? = some ops[i] := by rw [List.getElem?_take_of_lt hi]; simpa using hio
      exact puts_at _ vs a0 i t ops[i] _ hio' hot (hvs i _ t hio' hot) ht (fun j x hj hx => by
        obtain ⟨hjn, hj'⟩ := hdst j x hj
        exact hF.uniq j i t hjn hi (by unfold dstOf; rw [hj']; exact hx) hit)
    · rw [puts_other _ vs a0 t (fun o ho hx => by
        obtain ⟨i, hi⟩ := List.mem_iff_getElem?.1 ho
        obtain ⟨hin, hi'⟩ := hdst i o hi
        exact hex ⟨i, hin, by unfold dstOf; rw [hi']; exact hx⟩)]
      exact (st.rest t fun i hi e => hex ⟨i, of_decide_eq_true hi, e⟩).symm
  rw [he] at hR
  exact hR
/-- THE LAW, by kinds, where only edges that bind count. -/
theorem region_kinds2 {id : Nat} {w : World} (n : Nat) (ks : List Kind) (J : World → Prop) (hm : P.follows .mixedOrders = true)
    (hf : fits2 ops n a0.tmps.size none = true) (hk : ks.length = n) (hd : (ops.toList.take n).all (fun o => o.dst.isSome) = true) (start : J w.drew)
    (keep : ∀ p w w', (Kind.of p) ∈ ks → J w → Below w.heap.size w w' → ∀ v, p v w → p v w')
    (step : ∀ (i : Nat) (o : Oper) (listed : Nat → Bool) (a : Act) (w : World), i < n → ops[i]? = some o → StK ops ks J a0 listed a w → (∀ j, listed j = true → j < n) → (∀ e ∈ o.after, Region.binds .any e = true → listed e.on = true) →
      wpOp P ops Q i (Post ks J i o a w) a w)
    (fin : ∀ w, J w → finK w (fun a => wpList P ops Q (ops.toList.drop n) a w) ks (ops.toList.take n) a0) : (Code.region id ops true).wp P Q a0 w := by
  have hF := fits2_spec hf
  refine wp_region_any hm (wpAny_inv2 (n := n) (f := none) (V := fun i v w => (kindAt ks i).holds v w) (J := J) (G := fun x y => J x ∧ Below x.heap.size x y) hF (fun i v x y hv h => kinds_mono keep i v x y hv h) ?_ (fun a w st => fin_all hF hk hd fin a w st) (fun i a w h => by cases h) ops.size _ a0 _ (by simp) (by simp) ?_ (start_st start))
  · intro i o listed a w hin ho st hl hdep
    exact wpOp_mono (fun a' w' ⟨v, h1, h2, h3, h4⟩ => ⟨v, h1, h2, ⟨st.inv, h3⟩, h4⟩) (step i o listed a w hin ho st hl hdep)
  · intro i hi
    have : (Array.replicate ops.size false).getD i false = false := by
      by_cases hi : i < ops.size <;> simp [Array.getD_eq_getD_getElem?, hi]
    rw [this] at hi; cases hi
/-- THE LAW of a region with one store behind: the store is of slot y into slot x, and need not wait for operation f, which makes vf of slot r's value tv whatever the world is. -/
theorem region_store {id : Nat} {w : World} (n : Nat) (ks : List Kind) (J : World → Prop) (f r jr df x y : Nat) (ty : TypeId) (tv vf : Value) (of os : Oper) (hm : P.follows .mixedOrders = true)
    (hf : fits2 ops n a0.tmps.size (some f) = true) (hk : ks.length = n) (hd : (ops.toList.take n).all (fun o => o.dst.isSome) = true)
    (hof : ops[f]? = some of) (hos : ops[n]? = some os) (hfn : f < n) (hgf : of.guard = none) (hgs : os.guard = none) (hdf : of.dst = some df) (hds : os.dst = none) (hop : os.op = .store ty (.tmp x) (.tmp y)) (hxy : (df ≠ x ∧ df ≠ y) ∧ jr < n ∧ jr ≠ f ∧ df ≠ r)
    (hjr : dstOf ops jr = some r) (hkr : ks[jr]? = some (.eq tv)) (hkf : ks[f]? = some (.eq vf)) (hrun : ∀ (ρ : Operand → Value) (w : World), ρ (.tmp r) = tv → (execOp ρ of).run P w = .ok (.value vf) w)
    (start : J w.drew)
    (keep : ∀ p w w', (Kind.of p) ∈ ks → J w → Below w.heap.size w w' → ∀ v, p v w → p v w')
    (step : ∀ (i : Nat) (o : Oper) (listed : Nat → Bool) (a : Act) (w : World), i < n → ops[i]? = some o → StK ops ks J a0 listed a w → (∀ j, listed j = true → j < n) → (∀ e ∈ o.after, Region.binds .any e = true → listed e.on = true) →
      wpOp P ops Q i (Post ks J i o a w) a w)
    (fin : ∀ w, J w → finK w (fun a => ∃ w1, (execOp a.eval os).run P w = .ok .skip w1 ∧ wpList P ops Q (ops.toList.drop (n + 1)) a w1) ks (ops.toList.take n) a0) : (Code.region id ops true).wp P Q a0 w := by
  have hF := fits2_spec hf
  have hle := hF.le
  obtain ⟨⟨hx, hy⟩, hjn, hjf, hrd⟩ := hxy
  have hnl : n < ops.size := (Array.getElem?_eq_some_iff.1 hos).1
  have hos' : ops[n] = os := (Array.getElem?_eq_some_iff.1 hos).2
  have wanted : ∀ (o : Oper) (y : Nat → Option Bool), o.guard = none → Region.wanted o y = true := fun o y h => by simp [Region.wanted, h]
  have hkind : ∀ (i : Nat) (u v : Value) (w : World), ks[i]? = some (.eq u) → (kindAt ks i).holds v w → v = u := by
    intro i u v w h hh
    unfold kindAt at hh; rw [h] at hh; exact hh
  refine wp_region_any hm (wpAny_inv2 (n := n) (f := some f) (V := fun i v w => (kindAt ks i).holds v w) (J := J) (G := fun x y => J x ∧ Below x.heap.size x y) hF (fun i v x y hv h => kinds_mono keep i v x y hv h) ?_ ?_ ?_ ops.size _ a0 _ (by simp) (by simp) ?_ (start_st start))
  · intro i o listed a w hin ho st hl hdep
    exact wpOp_mono (fun a' w' ⟨v, h1, h2, h3, h4⟩ => ⟨v, h1, h2, ⟨st.inv, h3⟩, h4⟩) (step i o listed a w hin ho st hl hdep)
  · intro a w st
    obtain ⟨w1, h1, h2⟩ := fin_all (R := fun a w => ∃ w1, (execOp a.eval os).run P w = .ok .skip w1 ∧ wpList P ops Q (ops.toList.drop (n + 1)) a w1) hF hk hd fin a w st
    have hcons : ops.toList.drop n = os :: ops.toList.drop (n + 1) := by
      rw [List.drop_eq_getElem_cons (by simpa using hnl)]; simp [hos']
    rw [hcons]
    unfold wpList
    rw [if_pos (wanted _ _ hgs)]
    refine .inl ?_
    unfold Oper.wp
    rw [h1, Oper.upon_skip, hds]
    exact h2
  · intro i a w hi hin _ st
    injection hi with hi
    subst hi
    have hb : ∀ j, (butOne ops n f).getD j false = (decide (j < n) && !decide (j = f)) := by
      intro j
      unfold butOne
      rw [Array.getD_eq_getD_getElem?, Array.getElem?_setIfInBounds, upTo_size]
      by_cases hj : j < ops.size
      · rw [upTo_get hj]
        by_cases e : f = j
        · subst e; simp [show f < ops.size by omega]
        · simp [e, Ne.symm e]
      · rw [Array.getElem?_eq_none (by rw [upTo_size]; omega)]
        by_cases e : f = j
        · subst e; omega
        · simp [e, show ¬ j < n by omega]
    have her : a.eval (.tmp r) = tv := by
      refine hkind jr tv _ w hkr (st.done jr r ?_ hjr)
      show (butOne ops n f).getD jr false = true
      rw [hb]; simp [hjn, hjf]
    -- the other order: f first
    have st2 := st.put2 hF (fun j hj => by have hj' : (butOne ops n f).getD j false = true := hj; rw [hb] at hj'; simp at hj'; exact hj'.1) (mono := fun _ _ h => h) hfn hof vf st.inv (fun d hd => by
      show (kindAt ks f).holds vf w
      unfold kindAt; rw [hkf]; rfl)
    have e2 : (fun j => if j = f then true else (butOne ops n f).getD j false) = fun j => decide (j < n) := by
      funext j
      rw [hb]
      by_cases e : j = f
      · subst e; simp [hfn]
      · simp [e]
    rw [e2] at st2
    obtain ⟨w1, h1, h2⟩ := fin_all (R := fun a w => ∃ w1, (execOp a.eval os).run P w = .ok .skip w1 ∧ wpList P ops Q (ops.toList.drop (n + 1)) a w1) hF hk hd fin _ w st2
    have hex : execOp (a.put of.dst vf).eval os = execOp a.eval os := by
      unfold execOp
      simp only [hop, hdf]
      rw [eval_put_other a df x vf hx, eval_put_other a df y vf hy]
    rw [hex] at h1
    unfold wpOp
    simp only [hos, wanted _ _ hgs, if_true]
    refine .inl ?_
    unfold Oper.wp
    rw [h1, Oper.upon_skip, hds]
    show wpAny P .any ops Q (ops.size - n) ((butOne ops n f).setIfInBounds n true) a w1
    obtain ⟨m, hm⟩ : ∃ m, ops.size - n = m + 1 := ⟨ops.size - n - 1, by omega⟩
    rw [hm]
    have hg : ∀ j, j < ops.size → ((butOne ops n f).setIfInBounds n true)[j]? = some (decide (j < n + 1) && !decide (j = f)) := by
      intro j hj
      have h3 := hb j
      rw [Array.getD_eq_getD_getElem?] at h3
      rw [Array.getElem?_setIfInBounds]
      have hsz : (butOne ops n f).size = ops.size := by unfold butOne; rw [Array.size_setIfInBounds, upTo_size]
      by_cases e : n = j
      · subst e; simp [hsz, hj, show n ≠ f by omega]
      · rw [if_neg e]
        have hq : (butOne ops n f)[j]? = some (butOne ops n f)[j] := Array.getElem?_eq_getElem (by omega)
        rw [hq] at h3 ⊢
        congr 1
        have h4 : (butOne ops n f)[j] = (decide (j < n) && !decide (j = f)) := h3
        rw [h4]
        congr 1
        exact decide_eq_decide.2 (by omega)
    refine ⟨fun hr => ?_, fun i hi => ?_⟩
    · exfalso
      have hno : f ∉ Region.ready .any ops ((butOne ops n f).setIfInBounds n true) := by rw [hr]; simp
      apply hno
      rw [mem_ready]
      refine ⟨?_, of, hof, fun e he hbb => ?_⟩
      · rw [Array.getD_eq_getD_getElem?, hg f (by omega)]; simp
      · have := hF.back f of hof e he hbb
        rw [Array.getD_eq_getD_getElem?, hg e.on (by omega)]; simp; omega
    · rw [mem_ready] at hi
      obtain ⟨hl, o, ho, hdep⟩ := hi
      have hil := (Array.getElem?_eq_some_iff.1 ho).1
      rw [Array.getD_eq_getD_getElem?, hg i hil] at hl
      have hif : i = f := by
        apply Decidable.byContradiction
        intro hne
        simp [hne] at hl
        rcases hF.tail i o f (by omega) (by omega) ho with ⟨h3, _⟩ | ⟨e, he, hbb, rfl⟩
        · omega
        · have := hdep e he hbb
          rw [Array.getD_eq_getD_getElem?, hg e.on (by omega)] at this
          simp at this
      subst hif
      rw [hof] at ho
      injection ho with ho
      subst ho
      unfold wpOp
      simp only [hof, wanted _ _ hgf, if_true]
      refine .inl ?_
      unfold Oper.wp
      rw [hrun a.eval w1 her, Oper.upon_value]
      have hset : ((butOne ops n i).setIfInBounds n true).setIfInBounds i true = upTo ops (n + 1) := by
        apply Array.ext_getElem?
        intro k
        rw [Array.getElem?_setIfInBounds]
        have hsz : ((butOne ops n i).setIfInBounds n true).size = ops.size := by unfold butOne; rw [Array.size_setIfInBounds, Array.size_setIfInBounds, upTo_size]
        by_cases hk2 : k < ops.size
        · rw [upTo_get hk2, hg k hk2]
          by_cases e : i = k
          · subst e; simp [hsz, hk2]; omega
          · simp [e, Ne.symm e]
        · rw [Array.getElem?_eq_none (by omega), Array.getElem?_eq_none (by rw [upTo_size]; omega)]
          by_cases e : i = k
          · subst e; omega
          · simp [e]
      rw [hset]
      exact wpAny_tail2 hF m (n + 1) _ w1 (by omega) (by omega) h2
  · intro i hi
    have : (Array.replicate ops.size false).getD i false = false := by
      by_cases hi : i < ops.size <;> simp [Array.getD_eq_getD_getElem?, hi]
    rw [this] at hi; cases hi
end
/-- a new block: its kind -/
def Fresh (W : World) (t : TypeId) (cs : Array Value) (v : Value) (w : World) : Prop := ∃ q, v = .pointer (some ⟨q, 0, none⟩) ∧ W.heap.size ≤ q ∧ q < w.heap.size ∧ w.heap[q]? = some (.cells cs t (0, 0))
theorem Fresh.keep {W w w' : World} {t : TypeId} {cs : Array Value} {v : Value} (h : Fresh W t cs v w) (hb : Below w.heap.size w w') : Fresh W t cs v w' := by
  obtain ⟨q, rfl, h1, h2, h3⟩ := h
  exact ⟨q, rfl, h1, Nat.lt_of_lt_of_le h2 hb.size, (hb.block q h2).trans h3⟩
end Go.Proofs.Ytepfgheliddpmaa.AnyOrder
