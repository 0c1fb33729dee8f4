import Derived.Test.YtplapoenhohliaaGreatOrder3
import Derived.OrdersHeld
namespace Go.Proofs.YtplapoenhohliaaGreat.AnyOrder
open Go Go.RowKit
set_option linter.unnecessarySimpa false
set_option linter.unusedSimpArgs false
set_option linter.unusedVariables false
def edge (ops : Array Oper) (i j : Nat) : Bool := ((ops[i]?).map (·.after.any fun e => Region.binds .any e && e.on == j)).getD false
theorem edge_spec {ops : Array Oper} {i j : Nat} {o : Oper} (ho : ops[i]? = some o) (h : edge ops i j = true) : ∃ e ∈ o.after, Region.binds .any e = true ∧ e.on = j := by
 unfold edge at h
 simp only [ho, Option.map_some, Option.getD_some, ← Array.any_toList, List.any_eq_true, Bool.and_eq_true, beq_iff_eq] at h
 obtain ⟨e, he, h1, h2⟩ := h
 exact ⟨e, by simpa using he, h1, h2⟩
def fits3 (ops : Array Oper) (n size : Nat) (L : List Nat) : Bool :=
 decide (n ≤ ops.size) &&
 ((List.range n).all fun i =>
  (match dstOf ops i with
   | some d => decide (d < size) && (List.range n).all fun j => i == j || !(dstOf ops j == some d)
   | none => true)) &&
 ((List.range ops.size).all fun i => decide (i < n) || (List.range i).all fun j => (decide (j < n) && L.contains j) || edge ops i j) &&
 ((List.range ops.size).all fun i => ((ops[i]?).map (·.after.all fun e => !Region.binds .any e || decide (e.on < i))).getD true) &&
 (L.all fun f => decide (f < n) && (match ops[f]? with
  | some o => o.after.toList.all (fun e => !Region.binds .any e || !L.contains e.on) && (List.range ops.size).all fun j => j == f || (decide (j < n) && !L.contains j) || edge ops j f || ((ops[j]?).map (o.apart ops)).getD true
  | none => false))
structure Fits3 (ops : Array Oper) (n size : Nat) (L : List Nat) : Prop where
 le : n ≤ ops.size
 lt : ∀ i d, i < n → dstOf ops i = some d → d < size
 uniq : ∀ i j d, i < n → j < n → dstOf ops i = some d → dstOf ops j = some d → i = j
 wait : ∀ (i : Nat) (o : Oper) (j : Nat), n ≤ i → j < n → L.contains j = false → ops[i]? = some o → ∃ e ∈ o.after, Region.binds .any e = true ∧ e.on = j
 tail : ∀ (i : Nat) (o : Oper) (j : Nat), n ≤ j → j < i → ops[i]? = some o → ∃ e ∈ o.after, Region.binds .any e = true ∧ e.on = j
 back : ∀ (i : Nat) (o : Oper), ops[i]? = some o → ∀ e ∈ o.after, Region.binds .any e = true → e.on < i
 late : ∀ f, L.contains f = true → f < n ∧ ∃ o, ops[f]? = some o ∧ (∀ e ∈ o.after, Region.binds .any e = true → L.contains e.on = false) ∧
  ∀ j oj, ops[j]? = some oj → j ≠ f → ¬ (j < n ∧ L.contains j = false) → (∀ e ∈ oj.after, Region.binds .any e = true → e.on ≠ f) → o.apart ops oj = true
theorem fits3_spec {ops : Array Oper} {n size : Nat} {L : List Nat} (h : fits3 ops n size L = true) : Fits3 ops n size L := by
 unfold fits3 at h
 simp only [Bool.and_eq_true, List.all_eq_true, decide_eq_true_eq, List.mem_range, Bool.or_eq_true] at h
 obtain ⟨⟨⟨⟨h0, h1⟩, h2⟩, h3⟩, h4⟩ := h
 refine ⟨h0, fun i d hi hd => ?_, fun i j d hi hj hd hj' => ?_, fun i o j hi hj hL ho => ?_, fun i o j hn hj ho => ?_, fun i o ho e he hb => ?_, fun f hf => ?_⟩
 ·have := h1 i hi
  rw [hd] at this
  simp only [Bool.and_eq_true, decide_eq_true_eq] at this
  exact this.1
 ·have := h1 i hi
  rw [hd] at this
  simp only [Bool.and_eq_true, List.all_eq_true, List.mem_range] at this
  have := this.2 j hj
  rw [hj'] at this
  simpa using this
 ·have hlt := (Array.getElem?_eq_some_iff.1 ho).1
  rcases h2 i hlt with h | h
  ·omega
  ·rcases h j (by omega) with h | h
   ·rw [hL] at h; exact absurd h.2 (by decide)
   ·exact edge_spec ho h
 ·have hlt := (Array.getElem?_eq_some_iff.1 ho).1
  rcases h2 i hlt with h | h
  ·omega
  ·rcases h j hj with h | h
   ·omega
   ·exact edge_spec ho h
 ·have := h3 i (Array.getElem?_eq_some_iff.1 ho).1
  simp only [ho, Option.map_some, Option.getD_some, Array.all_eq_true_iff_forall_mem, Bool.or_eq_true, Bool.not_eq_true', decide_eq_true_eq] at this
  rcases this e he with h | h
  ·rw [hb] at h; cases h
  ·exact h
 ·have hm := h4 f (by simpa using hf)
  refine ⟨hm.1, ?_⟩
  cases ho : ops[f]? with
  | none => rw [ho] at hm; exact absurd hm.2 (by simp)
  | some o =>
   rw [ho] at hm
   have hm := hm.2
   simp only [Bool.and_eq_true, List.all_eq_true, Bool.or_eq_true, Bool.not_eq_true', List.mem_range] at hm
   refine ⟨o, rfl, fun e he hb => ?_, fun j oj hoj hjf hnn hno => ?_⟩
   ·rcases hm.1 e (by simpa using he) with h | h
    ·rw [hb] at h; cases h
    ·exact h
   ·rcases hm.2 j (Array.getElem?_eq_some_iff.1 hoj).1 with ((h | h) | h) | h
    ·exact absurd (by simpa using h) hjf
    ·exact absurd ⟨of_decide_eq_true h.1, h.2⟩ hnn
    ·obtain ⟨e, he, hb, h5⟩ := edge_spec hoj h
     exact absurd h5 (hno e he hb)
    ·rw [hoj] at h; exact h
theorem held_of_any {P : Program} {md : Region.Mode} {ops : Array Oper} {Q : Exit → Act → World → Prop} : ∀ (fuel : Nat) (listed : Array Bool) (a : Act) (w : World), wpAny P md ops Q fuel listed a w → wpAnyH P md ops Q (fun _ => True) fuel listed a w
 | 0, _, _, _, h => h
 | fuel + 1, _, _, _, h => ⟨h.1, fun i hi => wpOp_mono (fun a' w' h' => ⟨trivial, held_of_any fuel _ a' w' h'⟩) (h.2 i hi)⟩
section
variable {P : Program} {ops : Array Oper} {Q : Exit → Act → World → Prop}
variable {V : Nat → Value → World → Prop} {J : World → Prop} {G : World → World → Prop} {a0 : Act} {L : List Nat}
theorem St.put3 {n : Nat} (hf : Fits3 ops n a0.tmps.size L) {listed : Nat → Bool} {a : Act} {w w' : World} (h : St ops V J a0 listed a w) (hl0 : ∀ i, listed i = true → i < n)
  (mono : ∀ i v, V i v w → V i v w') {i : Nat} {o : Oper} (hi : i < n) (ho : ops[i]? = some o) (v : Value) (hJ : J w') (hv : ∀ d, o.dst = some d → V i v w') :
  St ops V J a0 (fun j => if j = i then true else listed j) (a.put o.dst v) w' := by
 have hd : dstOf ops i = o.dst := by unfold dstOf; rw [ho]; rfl
 refine ⟨hJ, ?_, ?_, ?_, ?_⟩
 ·cases o.dst <;> exact h.defers
 ·cases o.dst with
  | none => exact h.size
  | some d => simp [Act.put]; exact h.size
 ·intro j d hj hjd
  by_cases hji : j = i
  ·subst hji
   rw [hd] at hjd
   rw [hjd, eval_put_same _ _ _ (by rw [h.size]; exact hf.lt j d hi (by rw [hd, hjd]))]
   exact hv d hjd
  ·simp only [hji, if_false] at hj
   have := mono j _ (h.done j d hj hjd)
   cases hod : o.dst with
   | none => exact this
   | some d' =>
    rw [eval_put_other _ _ _ _ (by intro e; subst e; exact hji (hf.uniq j i _ (hl0 j hj) hi hjd (by rw [hd, hod])))]
    exact this
 ·intro t ht
  have hti : o.dst ≠ some t := by have := ht i (by simp); rwa [hd] at this
  have hr := h.rest t (fun j hj => ht j (by by_cases e : j = i <;> simp [e, hj]))
  cases hod : o.dst with
  | none => exact hr
  | some d' => rw [eval_put_other _ _ _ _ (by intro e; subst e; exact hti hod)]; exact hr
theorem wpAny_tail3 {n size : Nat} (hf : Fits3 ops n size L) : ∀ (m k : Nat) (a : Act) (w : World), k + m = ops.size → n ≤ k → wpList P ops Q (ops.toList.drop k) a w → wpAny P .any ops Q m (upTo ops k) a w := by
 intro m
 induction m with
 | zero =>
  intro k a w hk hn h
  have hd : ops.toList.drop k = [] := by apply List.drop_eq_nil_of_le; simp; omega
  rw [hd] at h
  refine ⟨?_, h⟩
  apply List.eq_nil_iff_forall_not_mem.mpr
  intro j hj
  rw [mem_ready] at hj
  obtain ⟨hj, o, ho, _⟩ := hj
  have hlt := (Array.getElem?_eq_some_iff.1 ho).1
  rw [Array.getD_eq_getD_getElem?, upTo_get hlt] at hj
  simp at hj; omega
 | succ m ih =>
  intro k a w hk hn h
  have hlt : k < ops.size := by omega
  have hok : ops[k]? = some ops[k] := Array.getElem?_eq_getElem hlt
  have hcons : ops.toList.drop k = ops[k] :: ops.toList.drop (k + 1) := by
   rw [List.drop_eq_getElem_cons (by simpa using hlt)]; simp
  refine ⟨fun hr => ?_, fun i hi => ?_⟩
  ·exfalso
   have hno : k ∉ Region.ready .any ops (upTo ops k) := by rw [hr]; simp
   apply hno
   rw [mem_ready]
   refine ⟨?_, ops[k], hok, fun e he hb => ?_⟩
   ·rw [Array.getD_eq_getD_getElem?, upTo_get hlt]; simp
   ·have := hf.back k _ hok e he hb
    rw [Array.getD_eq_getD_getElem?, upTo_get (by omega)]; simpa using this
  ·rw [mem_ready] at hi
   obtain ⟨hl, o, ho, hdep⟩ := hi
   have hil := (Array.getElem?_eq_some_iff.1 ho).1
   rw [Array.getD_eq_getD_getElem?, upTo_get hil] at hl
   have hge : k ≤ i := by simp at hl; omega
   have hik : i = k := by
    apply Decidable.byContradiction
    intro hne
    obtain ⟨e, he, hb, rfl⟩ := hf.tail i o k hn (by omega) ho
    have := hdep e he hb
    rw [Array.getD_eq_getD_getElem?, upTo_get (by omega)] at this
    simp at this
   subst hik
   rw [hok] at ho
   injection ho with ho
   subst ho
   rw [hcons] at h
   rw [upTo_set hlt]
   unfold wpOp
   simp only [hok]
   simp only [wpList] at h
   split
   ·next hw =>
    rw [if_pos hw] at h
    rcases h with h | h
    ·exact .inl (Oper.wp_mono (fun a w hh => ih _ a w (by omega) (by omega) hh) h)
    ·exact .inr h
   ·next hw =>
    rw [if_neg hw] at h
    exact ih _ _ w (by omega) (by omega) h
theorem getb {ops : Array Oper} (listed : Array Bool) (i : Nat) (hs : listed.size = ops.size) (hi : i < ops.size) : ∃ b, listed[i]? = some b ∧ listed.getD i false = b ∧ listed.getD i true = b := by
 have hg : listed[i]? = some listed[i] := Array.getElem?_eq_getElem (by omega)
 exact ⟨_, hg, by rw [Array.getD_eq_getD_getElem?, hg]; rfl, by rw [Array.getD_eq_getD_getElem?, hg]; rfl⟩
theorem all3 {n : Nat} (hf : Fits3 ops n a0.tmps.size L) (fin : ∀ a w, St ops V J a0 (fun i => decide (i < n)) a w → wpList P ops Q (ops.toList.drop n) a w) : ∀ (fuel : Nat) (listed : Array Bool) (a : Act) (w : World), listed.size = ops.size → listed.toList.count false = fuel → (∀ i, listed.getD i false = true → i < n) → (∀ i, i < n → listed.getD i false = true) →
   St ops V J a0 (fun i => listed.getD i false) a w → wpAny P .any ops Q fuel listed a w := by
 have hle := hf.le
 intro fuel listed a w hs hc hl hall st
 have e : listed = upTo ops n := by
  apply Array.ext_getElem?
  intro i
  by_cases hi : i < ops.size
  ·rw [upTo_get hi]
   obtain ⟨b, h1, h2, _⟩ := getb (ops := ops) listed i hs hi
   rw [h1]
   congr 1
   cases b with
   | true => exact (decide_eq_true (hl i h2)).symm
   | false => exact (decide_eq_false (fun hn => by rw [hall i hn] at h2; cases h2)).symm
  ·rw [Array.getElem?_eq_none (by omega), Array.getElem?_eq_none (by rw [upTo_size]; omega)]
 subst e
 rw [count_upTo] at hc
 subst hc
 refine wpAny_tail3 hf _ n a w (by omega) (Nat.le_refl _) (fin a w ⟨st.inv, st.defers, st.size, fun i d hi hd => st.done i d (hall i (of_decide_eq_true hi)) hd, fun t ht => st.rest t fun i hi => ht i (decide_eq_true (hl i hi))⟩)
theorem late_in {n : Nat} (hf : Fits3 ops n a0.tmps.size L) (hsel : ∀ (j : Nat) (o : Oper) cs b, ops[j]? = some o → o.op ≠ .select cs b) (hQ : ∀ c d v a w, Q (.panic c) (a.put d v) w → Q (.panic c) a w)
  (pure : ∀ f o, L.contains f = true → ops[f]? = some o → ∃ v, (∀ w, V f v w) ∧ ∀ a w, J w → (∀ j d, j < n → L.contains j = false → dstOf ops j = some d → V j (a.eval (.tmp d)) w) → YieldsIf P ops (fun _ => True) o v a)
  (fin : ∀ a w, St ops V J a0 (fun i => decide (i < n)) a w → wpList P ops Q (ops.toList.drop n) a w) :
  ∀ (fuel : Nat) (listed : Array Bool) (a : Act) (w : World), listed.size = ops.size → listed.toList.count false = fuel → (∀ i, listed.getD i false = true → i < n) → (∀ i, i < n → L.contains i = false → listed.getD i false = true) →
   St ops V J a0 (fun i => listed.getD i false) a w → wpAnyH P .any ops Q (fun _ => True) fuel listed a w := by
 have hle := hf.le
 intro fuel
 induction fuel with
 | zero =>
  intro listed a w hs hc hl hall st
  have hall2 : ∀ i, i < n → listed.getD i false = true := by
   intro i hi
   have hm : listed[i]'(by omega) ∈ listed.toList := by simp
   have := List.count_eq_zero.mp hc
   cases hb : listed[i]'(by omega) with
   | true => simp [Array.getD_eq_getD_getElem?, Array.getElem?_eq_getElem (show i < listed.size by omega), hb]
   | false => rw [hb] at hm; exact absurd hm this
  exact held_of_any _ _ _ _ (all3 hf fin 0 listed a w hs hc hl hall2 st)
 | succ fuel ih =>
  intro listed a w hs hc hl hall st
  by_cases hall2 : ∀ i, i < n → listed.getD i false = true
  ·exact held_of_any _ _ _ _ (all3 hf fin _ listed a w hs hc hl hall2 st)
  obtain ⟨i, hi, hn⟩ : ∃ i, i < n ∧ listed.getD i false = false := by
   apply Decidable.byContradiction
   intro hno
   apply hall2
   intro i hi
   cases hb : listed.getD i false with
   | true => rfl
   | false => exact absurd ⟨i, hi, hb⟩ hno
  have hLi : L.contains i = true := by
   cases h : L.contains i with
   | true => rfl
   | false => rw [hall i hi h] at hn; cases hn
  obtain ⟨_, o, ho, hdeps, hap⟩ := hf.late i hLi
  obtain ⟨v, hv, hy⟩ := pure i o hLi ho
  obtain ⟨b, hb1, hb2, hb3⟩ := getb (ops := ops) listed i hs (by omega)
  rw [hb2] at hn
  subst hn
  refine wpAnyH_first ho hsel (fun c a w => hQ c o.dst v a w) fuel listed a w (fun j oj hoj hji hun hno => hap j oj hoj hji (fun hh => ?_) hno) ?_ (hy a w st.inv fun j d hj hLj hd => st.done j d (hall j hj hLj) hd) trivial ?_
  ·obtain ⟨b', _, h2, h3⟩ := getb (ops := ops) listed j hs (by omega)
   rw [hall j hh.1 hh.2] at h2
   rw [h3, ← h2] at hun
   cases hun
  ·rw [mem_ready]
   refine ⟨hb3, o, ho, fun e he hb => hall e.on ?_ (hdeps e he hb)⟩
   have := hf.back i o ho e he hb
   omega
  ·have e : (fun j => if j = i then true else listed.getD j false) = fun j => (listed.setIfInBounds i true).getD j false := by
    funext j
    by_cases hji : j = i
    ·subst hji; simp [Array.getD_eq_getD_getElem?, show j < listed.size by omega]
    ·simp [Array.getD_eq_getD_getElem?, hji, Ne.symm hji]
   apply ih _ _ _ (by simpa using hs)
   ·have := count_set listed.toList i (by simpa using hb1)
    rw [Array.toList_setIfInBounds]; omega
   ·intro j hj
    have := congrFun e j
    rw [hj] at this
    by_cases hji : j = i
    ·subst hji; exact hi
    ·simp only [hji, if_false] at this
     exact hl j this
   ·intro j hj hLj
    have := congrFun e j
    rw [← this]
    by_cases hji : j = i
    ·simp [hji]
    ·simp only [hji, if_false]; exact hall j hj hLj
   ·have hp := st.put3 hf hl (mono := fun _ _ h => h) hi ho v st.inv (fun _ _ => hv w)
    rw [e] at hp; exact hp
theorem wpAny_inv3 {n : Nat} (hf : Fits3 ops n a0.tmps.size L) (mono : ∀ i v w w', V i v w → G w w' → V i v w')
  (hsel : ∀ (j : Nat) (o : Oper) cs b, ops[j]? = some o → o.op ≠ .select cs b) (hQ : ∀ c d v a w, Q (.panic c) (a.put d v) w → Q (.panic c) a w)
  (pure : ∀ f o, L.contains f = true → ops[f]? = some o → ∃ v, (∀ w, V f v w) ∧ ∀ a w, J w → (∀ j d, j < n → L.contains j = false → dstOf ops j = some d → V j (a.eval (.tmp d)) w) → YieldsIf P ops (fun _ => True) o v a)
  (step : ∀ (i : Nat) (o : Oper) (listed : Nat → Bool) (a : Act) (w : World), i < n → ops[i]? = some o → St ops V J a0 listed a w → (∀ j, listed j = true → j < n) → (∀ e ∈ o.after, Region.binds .any e = true → listed e.on = true) →
   wpOp P ops Q i (fun a' w' => ∃ v, a' = a.put o.dst v ∧ J w' ∧ G w w' ∧ ∀ d, o.dst = some d → V i v w') a w)
  (fin : ∀ a w, St ops V J a0 (fun i => decide (i < n)) a w → wpList P ops Q (ops.toList.drop n) a w) :
  ∀ (fuel : Nat) (listed : Array Bool) (a : Act) (w : World), listed.size = ops.size → listed.toList.count false = fuel → (∀ i, listed.getD i false = true → i < n) →
   St ops V J a0 (fun i => listed.getD i false) a w → wpAny P .any ops Q fuel listed a w := by
 have hle := hf.le
 intro fuel
 induction fuel with
 | zero =>
  intro listed a w hs hc hl st
  have hall : ∀ i, i < n → listed.getD i false = true := by
   intro i hi
   have hm : listed[i]'(by omega) ∈ listed.toList := by simp
   have := List.count_eq_zero.mp hc
   cases hb : listed[i]'(by omega) with
   | true => simp [Array.getD_eq_getD_getElem?, Array.getElem?_eq_getElem (show i < listed.size by omega), hb]
   | false => rw [hb] at hm; exact absurd hm this
  exact all3 hf fin 0 listed a w hs hc hl hall st
 | succ fuel ih =>
  intro listed a w hs hc hl st
  by_cases hall : ∀ i, i < n → L.contains i = false → listed.getD i false = true
  ·exact wpAny_of_held _ _ _ _ (late_in hf hsel hQ pure fin _ listed a w hs hc hl hall st)
  refine ⟨fun hr => ?_, fun i hi => ?_⟩
  ·exfalso
   apply hall
   have hh : ∀ i, i < n → listed.getD i false = true := by
    intro i
    induction i using Nat.strongRecOn with
    | _ i ih2 =>
     intro hi
     apply Decidable.byContradiction
     intro hn
     have hno : i ∉ Region.ready .any ops listed := by rw [hr]; simp
     apply hno
     rw [mem_ready]
     obtain ⟨b, h1, h2, h3⟩ := getb (ops := ops) listed i hs (by omega)
     refine ⟨?_, ops[i], Array.getElem?_eq_getElem (by omega), fun e he hb => ?_⟩
     ·rw [h3]; rw [h2] at hn; simpa using hn
     ·have := hf.back i ops[i] (Array.getElem?_eq_getElem (by omega)) e he hb
      exact ih2 e.on this (by omega)
   exact fun i hi _ => hh i hi
  ·rw [mem_ready] at hi
   obtain ⟨hl2, o, ho, hdep⟩ := hi
   have hlt := (Array.getElem?_eq_some_iff.1 ho).1
   obtain ⟨b, hb1, hb2, hb3⟩ := getb (ops := ops) listed i hs hlt
   rw [hb3] at hl2
   subst hl2
   by_cases hin : i < n
   ·refine wpOp_mono ?_ (step i o _ a w hin ho st hl hdep)
    rintro a' w' ⟨v, rfl, hJ, hG, hv⟩
    have e : (fun j => if j = i then true else listed.getD j false) = fun j => (listed.setIfInBounds i true).getD j false := by
     funext j
     by_cases hji : j = i
     ·subst hji; simp [Array.getD_eq_getD_getElem?, show j < listed.size by omega]
     ·simp [Array.getD_eq_getD_getElem?, hji, Ne.symm hji]
    apply ih _ _ _ (by simpa using hs)
    ·have := count_set listed.toList i (by simpa using hb1)
     rw [Array.toList_setIfInBounds]; omega
    ·intro j hj
     have := congrFun e j
     rw [hj] at this
     by_cases hji : j = i
     ·subst hji; exact hin
     ·simp only [hji, if_false] at this
      exact hl j this
    ·have hp := st.put3 hf hl (mono := fun j u hu => mono j u w w' hu hG) hin ho v hJ hv
     rw [e] at hp; exact hp
   ·exfalso
    apply hall
    intro j hj hLj
    obtain ⟨e, he, hb, rfl⟩ := hf.wait i o j (by omega) hj hLj ho
    exact hdep e he hb
end
section
variable {P : Program} {ops : Array Oper} {Q : Exit → Act → World → Prop} {J : World → Prop} {a0 : Act} {ks : List Kind}
theorem fin_all3 {n : Nat} {L : List Nat} (hF : Fits3 ops n a0.tmps.size L) (hk : ks.length = n) (hd : (ops.toList.take n).all (fun o => o.dst.isSome) = true) {R : Act → World → Prop}
  (fin : ∀ w, J w → finK w (fun a => R a w) ks (ops.toList.take n) a0) (a : Act) (w : World) (st : St ops (fun i v w => (kindAt ks i).holds v w) J a0 (fun i => decide (i < n)) a w) : R a w := by
 have hle := hF.le
 have hdst : ∀ (i : Nat) (o : Oper), (ops.toList.take n)[i]? = some o → i < n ∧ ops[i]? = some o := by
  intro i o ho
  have hl := (List.getElem?_eq_some_iff.1 ho).1
  rw [List.length_take] at hl
  refine ⟨by omega, ?_⟩
  rw [List.getElem?_take_of_lt (by omega)] at ho
  simpa using ho
 have hsome : ∀ o ∈ ops.toList.take n, o.dst ≠ none := by
  intro o ho e
  have := List.all_eq_true.1 hd o ho
  rw [e] at this; cases this
 let vs : List Value := (ops.toList.take n).map (fun o => match o.dst with | some d => a.eval (.tmp d) | none => undef)
 have hvs : ∀ (i : Nat) (o : Oper) (d : Tmp), (ops.toList.take n)[i]? = some o → o.dst = some d → vs[i]? = some (a.eval (.tmp d)) := by
  intro i o d ho hd
  simp only [vs, List.getElem?_map, ho, Option.map_some, hd]
 have hR := finK_puts ks (ops.toList.take n) vs a0 (by rw [List.length_take, hk]; simp; omega) (by simp [vs]) (fun i v o hv ho => by
  obtain ⟨hi, ho'⟩ := hdst i o ho
  cases hod : o.dst with
  | none => exact .inr rfl
  | some d =>
   rw [hvs i o d ho hod] at hv
   injection hv with hv
   subst hv
   exact .inl (st.done i d (decide_eq_true hi) (by unfold dstOf; rw [ho']; exact hod))) (fin w st.inv) hsome
 have he : puts (ops.toList.take n) vs a0 = a := by
  have hp := puts_size (ops.toList.take n) vs a0
  refine act_ext (by rw [hp.2, st.defers]) (by rw [hp.1, st.size]) fun t ht => ?_
  rw [hp.1] at ht
  by_cases hex : ∃ i, i < n ∧ dstOf ops i = some t
  ·obtain ⟨i, hi, hit⟩ := hex
   have hio : ops[i]? = some ops[i] := Array.getElem?_eq_getElem (by omega)
   have hot : ops[i].dst = some t := by unfold dstOf at hit; rw [hio] at hit; exact hit
   have hio' : (ops.toList.take n)[i]? = some ops[i] := by rw [List.getElem?_take_of_lt hi]; simpa using hio
   exact puts_at _ vs a0 i t ops[i] _ hio' hot (hvs i _ t hio' hot) ht (fun j x hj hx => by
    obtain ⟨hjn, hj'⟩ := hdst j x hj
    exact hF.uniq j i t hjn hi (by unfold dstOf; rw [hj']; exact hx) hit)
  ·rw [puts_other _ vs a0 t (fun o ho hx => by
    obtain ⟨i, hi⟩ := List.mem_iff_getElem?.1 ho
    obtain ⟨hin, hi'⟩ := hdst i o hi
    exact hex ⟨i, hin, by unfold dstOf; rw [hi']; exact hx⟩)]
   exact (st.rest t fun i hi e => hex ⟨i, of_decide_eq_true hi, e⟩).symm
 rw [he] at hR
 exact hR
theorem region_late {id : Nat} {w : World} (n : Nat) (ks : List Kind) (L : List Nat) (J : World → Prop) (hm : P.follows .mixedOrders = true)
  (hf : fits3 ops n a0.tmps.size L = true) (hk : ks.length = n) (hd : (ops.toList.take n).all (fun o => o.dst.isSome) = true) (hs : Region.noSelect ops = true) (hQ : ∀ c d v a w, Q (.panic c) (a.put d v) w → Q (.panic c) a w) (start : J w.drew)
  (keep : ∀ p w w', (Kind.of p) ∈ ks → J w → Below w.heap.size w w' → ∀ v, p v w → p v w')
  (pure : ∀ f o, L.contains f = true → ops[f]? = some o → ∃ v, ks[f]? = some (.eq v) ∧ o.guard = none ∧ ∀ (a : Act) (w : World), (∀ j d, j < n → L.contains j = false → dstOf ops j = some d → (kindAt ks j).holds (a.eval (.tmp d)) w) → ∀ w', (execOp a.eval o).run P w' = .ok (.value v) w')
  (step : ∀ (i : Nat) (o : Oper) (listed : Nat → Bool) (a : Act) (w : World), i < n → ops[i]? = some o → StK ops ks J a0 listed a w → (∀ j, listed j = true → j < n) → (∀ e ∈ o.after, Region.binds .any e = true → listed e.on = true) →
   wpOp P ops Q i (Post ks J i o a w) a w)
  (fin : ∀ w, J w → finK w (fun a => wpList P ops Q (ops.toList.drop n) a w) ks (ops.toList.take n) a0) : (Code.region id ops true).wp P Q a0 w := by
 have hF := fits3_spec hf
 refine wp_region_any hm (wpAny_inv3 (n := n) (V := fun i v w => (kindAt ks i).holds v w) (J := J) (G := fun x y => J x ∧ Below x.heap.size x y) hF (fun i v x y hv h => kinds_mono keep i v x y hv h) (Region.noSelect_spec hs) hQ ?_ ?_ (fun a w st => fin_all3 hF hk hd fin a w st) ops.size _ a0 _ (by simp) (by simp) ?_ (start_st start))
 ·intro f o hL ho
  obtain ⟨v, h1, h2, h3⟩ := pure f o hL ho
  refine ⟨v, fun w => ?_, fun a w hJ hd => .inl ⟨by simp [Region.wanted, h2], fun w' _ => h3 a w hd w'⟩⟩
  show (kindAt ks f).holds v w
  unfold kindAt; rw [h1]; rfl
 ·intro i o listed a w hin ho st hl hdep
  exact wpOp_mono (fun a' w' ⟨v, h1, h2, h3, h4⟩ => ⟨v, h1, h2, ⟨st.inv, h3⟩, h4⟩) (step i o listed a w hin ho st hl hdep)
 ·intro i hi
  have : (Array.replicate ops.size false).getD i false = false := by
   by_cases hi : i < ops.size <;> simp [Array.getD_eq_getD_getElem?, hi]
  rw [this] at hi; cases hi
end
end Go.Proofs.YtplapoenhohliaaGreat.AnyOrder
