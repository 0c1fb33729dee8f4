/- A law on a region that draws its order: the first n operations come in any order, each yields a value of its own kind (or is not wanted) and keeps the world's invariant; the others come behind them, in the text's order. No Go text. -/
import Derived.Orders
import Derived.WalkKit
import Derived.Below
namespace Go.Proofs.Ytepfgheliddpmaa.AnyOrder
open Go Go.RowKit
set_option linter.unnecessarySimpa false
set_option linter.unusedSimpArgs false
set_option linter.unusedVariables false

def dstOf (ops : Array Oper) (i : Nat) : Option Tmp := (ops[i]?).bind (·.dst)

/-- the state within a region: 'listed' is done; each value that was made is of its kind; every other slot is as it was -/
structure St (ops : Array Oper) (V : Nat → Value → World → Prop) (J : World → Prop) (a0 : Act) (listed : Nat → Bool) (a : Act) (w : World) : Prop where
  inv : J w
  defers : a.defers = a0.defers
  size : a.tmps.size = a0.tmps.size
  done : ∀ i d, listed i = true → dstOf ops i = some d → V i (a.eval (.tmp d)) w
  rest : ∀ t, (∀ i, listed i = true → dstOf ops i ≠ some t) → a.eval (.tmp t) = a0.eval (.tmp t)

theorem eval_put_same (a : Act) (d : Tmp) (v : Value) (h : d < a.tmps.size) : (a.put (some d) v).eval (.tmp d) = v := by
  simp [Act.put, Act.eval, h]
theorem eval_put_other (a : Act) (d t : Tmp) (v : Value) (h : d ≠ t) : (a.put (some d) v).eval (.tmp t) = a.eval (.tmp t) := by
  simp [Act.put, Act.eval, Array.getD_eq_getD_getElem?, h]

/-- the first n: no two write one slot, each slot is there, none waits for a later one; the others have no guard and wait for all that stand ahead of them -/
def fits (ops : Array Oper) (n size : Nat) : Bool :=
  decide (n ≤ ops.size) &&
  ((List.range n).all fun i =>
    (match dstOf ops i with
      | some d => decide (d < size) && (List.range n).all fun j => i == j || !(dstOf ops j == some d)
      | none => true) &&
    ((ops[i]?).map (·.after.all fun e => decide (e.on < i))).getD true) &&
  ((List.range ops.size).all fun i => decide (i < n) || (List.range i).all fun j => ((ops[i]?).map (·.after.any fun e => Region.binds .any e && e.on == j)).getD false) &&
  ((List.range ops.size).all fun i => decide (i < n) || ((ops[i]?).map (·.after.all fun e => decide (e.on < i))).getD true)

section
variable {P : Program} {ops : Array Oper} {Q : Exit → Act → World → Prop}
variable {V : Nat → Value → World → Prop} {J : World → Prop} {G : World → World → Prop} {a0 : Act}

theorem dstOf_lt {i : Nat} {d : Tmp} (h : dstOf ops i = some d) : i < ops.size := by
  unfold dstOf at h
  cases ho : ops[i]? with
  | none => rw [ho] at h; simp at h
  | some o => exact (Array.getElem?_eq_some_iff.1 ho).1

structure Fits (ops : Array Oper) (n size : Nat) : Prop where
  le : n ≤ ops.size
  lt : ∀ i d, i < n → dstOf ops i = some d → d < size
  uniq : ∀ i j d, i < n → j < n → dstOf ops i = some d → dstOf ops j = some d → i = j
  back : ∀ (i : Nat) (o : Oper), i < n → ops[i]? = some o → ∀ e ∈ o.after, e.on < i
  tail : ∀ (i : Nat) (o : Oper) (j : Nat), n ≤ i → j < i → ops[i]? = some o → ∃ e ∈ o.after, Region.binds .any e = true ∧ e.on = j
  tback : ∀ (i : Nat) (o : Oper), n ≤ i → ops[i]? = some o → ∀ e ∈ o.after, e.on < i
theorem fits_spec {n size : Nat} (h : fits ops n size = true) : Fits ops n size := by
  unfold fits at h
  simp only [Bool.and_eq_true, List.all_eq_true, decide_eq_true_eq, List.mem_range, Bool.or_eq_true] at h
  obtain ⟨⟨⟨h0, h1⟩, h2⟩, h3⟩ := h
  refine ⟨h0, fun i d hi hd => ?_, fun i j d hi hj hd hj' => ?_, fun i o hi ho e he => ?_, fun i o j hi hj ho => ?_, fun i o hi ho e he => ?_⟩
  · have := (h1 i hi).1
    rw [hd] at this
    simp only [Bool.and_eq_true, decide_eq_true_eq] at this
    exact this.1
  · have := (h1 i hi).1
    rw [hd] at this
    simp only [Bool.and_eq_true, List.all_eq_true, List.mem_range] at this
    have := this.2 j hj
    rw [hj'] at this
    simpa using this
  · have := (h1 i hi).2
    simp only [ho, Option.map_some, Option.getD_some, Array.all_eq_true_iff_forall_mem, decide_eq_true_eq] at this
    exact this e he
  · have hlt := (Array.getElem?_eq_some_iff.1 ho).1
    rcases h2 i hlt with h | h
    · omega
    · have := h j hj
      simp only [ho, Option.map_some, Option.getD_some, ← Array.any_toList, List.any_eq_true, Bool.and_eq_true, beq_iff_eq] at this
      obtain ⟨e, he, h1, h2⟩ := this
      exact ⟨e, by simpa using he, h1, h2⟩
  · have hlt := (Array.getElem?_eq_some_iff.1 ho).1
    rcases h3 i hlt with h | h
    · omega
    · simp only [ho, Option.map_some, Option.getD_some, Array.all_eq_true_iff_forall_mem, decide_eq_true_eq] at h
      exact h e he

theorem St.put {n : Nat} (hf : Fits ops n a0.tmps.size) {listed : Nat → Bool} {a : Act} {w w' : World} (h : St ops V J a0 listed a w) (hl0 : ∀ i, listed i = true → i < n)
    (mono : ∀ i v, V i v w → V i v w') {i : Nat} {o : Oper} (hi : i < n) (ho : ops[i]? = some o) (hl : listed i = false) (v : Value) (hJ : J w') (hv : ∀ d, o.dst = some d → V i v w') :
    St ops V J a0 (fun j => if j = i then true else listed j) (a.put o.dst v) w' := by
  have hd : dstOf ops i = o.dst := by unfold dstOf; rw [ho]; rfl
  refine ⟨hJ, ?_, ?_, ?_, ?_⟩
  · cases o.dst <;> exact h.defers
  · cases o.dst with
    | none => exact h.size
    | some d => simp [Act.put]; exact h.size
  · intro j d hj hjd
    by_cases hji : j = i
    · subst hji
      rw [hd] at hjd
      rw [hjd, eval_put_same _ _ _ (by rw [h.size]; exact hf.lt j d hi (by rw [hd, hjd]))]
      exact hv d hjd
    · simp only [hji, if_false] at hj
      have := mono j _ (h.done j d hj hjd)
      cases hod : o.dst with
      | none => exact this
      | some d' =>
        rw [eval_put_other _ _ _ _ (by intro e; subst e; exact hji (hf.uniq j i _ (hl0 j hj) hi hjd (by rw [hd, hod])))]
        exact this
  · intro t ht
    have hti : o.dst ≠ some t := by have := ht i (by simp); rwa [hd] at this
    have hr := h.rest t (fun j hj => ht j (by by_cases e : j = i <;> simp [e, hj]))
    cases hod : o.dst with
    | none => exact hr
    | some d' => rw [eval_put_other _ _ _ _ (by intro e; subst e; exact hti hod)]; exact hr

theorem count_set (l : List Bool) (i : Nat) (hi : l[i]? = some false) : (l.set i true).count false + 1 = l.count false := by
  induction l generalizing i with
  | nil => simp at hi
  | cons b l ih =>
    cases i with
    | zero => simp at hi; subst hi; simp
    | succ i =>
      simp only [List.getElem?_cons_succ] at hi
      have := ih i hi
      simp only [List.set_cons_succ, List.count_cons]
      omega

/-- the first k are done, and no other -/
def upTo (ops : Array Oper) (k : Nat) : Array Bool := (List.map (fun i => decide (i < k)) (List.range ops.size)).toArray
theorem upTo_size (k : Nat) : (upTo ops k).size = ops.size := by simp [upTo]
theorem upTo_get {k i : Nat} (h : i < ops.size) : (upTo ops k)[i]? = some (decide (i < k)) := by
  simp [upTo, h]
theorem upTo_set {k : Nat} (h : k < ops.size) : (upTo ops k).setIfInBounds k true = upTo ops (k + 1) := by
  apply Array.ext_getElem?
  intro i
  rw [Array.getElem?_setIfInBounds]
  by_cases hi : i < ops.size
  · rw [upTo_get hi, upTo_get hi, upTo_size]
    by_cases e : k = i
    · subst e; simp [h]
    · simp [e, show (i < k) = (i < k + 1) by apply propext; omega]
  · rw [Array.getElem?_eq_none (by rw [upTo_size]; omega), Array.getElem?_eq_none (by rw [upTo_size]; omega)]
    by_cases e : k = i
    · subst e; omega
    · simp [e]

/-- the tail -/
theorem wpAny_tail {n size : Nat} (hf : Fits ops n size) : ∀ (m k : Nat) (a : Act) (w : World), k + m = ops.size → n ≤ k → wpList P ops Q (ops.toList.drop k) a w → wpAny P .any ops Q m (upTo ops k) a w := by
  intro m
  induction m with
  | zero =>
    intro k a w hk hn h
    have hd : ops.toList.drop k = [] := by apply List.drop_eq_nil_of_le; simp; omega
    rw [hd] at h
    refine ⟨?_, h⟩
    apply List.eq_nil_iff_forall_not_mem.mpr
    intro j hj
    rw [mem_ready] at hj
    obtain ⟨hj, o, ho, _⟩ := hj
    have hlt := (Array.getElem?_eq_some_iff.1 ho).1
    rw [Array.getD_eq_getD_getElem?, upTo_get hlt] at hj
    simp at hj; omega
  | succ m ih =>
    intro k a w hk hn h
    have hlt : k < ops.size := by omega
    have hok : ops[k]? = some ops[k] := Array.getElem?_eq_getElem hlt
    have hcons : ops.toList.drop k = ops[k] :: ops.toList.drop (k + 1) := by
      rw [List.drop_eq_getElem_cons (by simpa using hlt)]; simp
    refine ⟨fun hr => ?_, fun i hi => ?_⟩
    · exfalso
      have hno : k ∉ Region.ready .any ops (upTo ops k) := by rw [hr]; simp
      apply hno
      rw [mem_ready]
      refine ⟨?_, ops[k], hok, fun e he _ => ?_⟩
      · rw [Array.getD_eq_getD_getElem?, upTo_get hlt]; simp
      · have := hf.tback k _ hn hok e he
        rw [Array.getD_eq_getD_getElem?, upTo_get (by omega)]; simpa using this
    · rw [mem_ready] at hi
      obtain ⟨hl, o, ho, hdep⟩ := hi
      have hil := (Array.getElem?_eq_some_iff.1 ho).1
      rw [Array.getD_eq_getD_getElem?, upTo_get hil] at hl
      have hge : k ≤ i := by simp at hl; omega
      have hik : i = k := by
        apply Decidable.byContradiction
        intro hne
        obtain ⟨e, he, hb, rfl⟩ := hf.tail i o k (by omega) (by omega) ho
        have := hdep e he hb
        rw [Array.getD_eq_getD_getElem?, upTo_get (by omega)] at this
        simp at this
      subst hik
      rw [hok] at ho
      injection ho with ho
      subst ho
      rw [hcons] at h
      rw [upTo_set hlt]
      unfold wpOp
      simp only [hok]
      simp only [wpList] at h
      split
      · next hw =>
        rw [if_pos hw] at h
        rcases h with h | h
        · exact .inl (Oper.wp_mono (fun a w hh => ih _ a w (by omega) (by omega) hh) h)
        · exact .inr h
      · next hw =>
        rw [if_neg hw] at h
        exact ih _ _ w (by omega) (by omega) h

theorem wpAny_inv {n : Nat} (hf : Fits ops n a0.tmps.size) (mono : ∀ i v w w', V i v w → G w w' → V i v w')
    (step : ∀ (i : Nat) (o : Oper) (listed : Nat → Bool) (a : Act) (w : World), i < n → ops[i]? = some o → St ops V J a0 listed a w → (∀ j, listed j = true → j < n) → (∀ e ∈ o.after, Region.binds .any e = true → listed e.on = true) →
      wpOp P ops Q i (fun a' w' => ∃ v, a' = a.put o.dst v ∧ J w' ∧ G w w' ∧ ∀ d, o.dst = some d → V i v w') a w)
    (fin : ∀ a w, St ops V J a0 (fun i => decide (i < n)) a w → wpList P ops Q (ops.toList.drop n) a w) :
    ∀ (fuel : Nat) (listed : Array Bool) (a : Act) (w : World), listed.size = ops.size → listed.toList.count false = fuel → (∀ i, listed.getD i false = true → i < n) →
      St ops V J a0 (fun i => listed.getD i false) a w → wpAny P .any ops Q fuel listed a w := by
  have all : ∀ (fuel : Nat) (listed : Array Bool) (a : Act) (w : World), listed.size = ops.size → listed.toList.count false = fuel → (∀ i, listed.getD i false = true → i < n) → (∀ i, i < n → listed.getD i false = true) →
      St ops V J a0 (fun i => listed.getD i false) a w → wpAny P .any ops Q fuel listed a w := by
    intro fuel listed a w hs hc hl hall st
    have hle := hf.le
    have e : listed = upTo ops n := by
      apply Array.ext_getElem?
      intro i
      by_cases hi : i < ops.size
      · rw [upTo_get hi]
        have hg : listed[i]? = some listed[i] := Array.getElem?_eq_getElem (by omega)
        have h1 := hl i; have h2 := hall i
        rw [Array.getD_eq_getD_getElem?, hg, Option.getD_some] at h1 h2
        rw [hg]
        congr 1
        cases hb : listed[i] with
        | true => exact (decide_eq_true (h1 hb)).symm
        | false => exact (decide_eq_false (fun hn => by rw [h2 hn] at hb; cases hb)).symm
      · rw [Array.getElem?_eq_none (by omega), Array.getElem?_eq_none (by rw [upTo_size]; omega)]
    subst e
    have hcount : (upTo ops n).toList.count false = ops.size - n := by
      unfold upTo
      rw [List.toList_toArray]
      have : ∀ m, (List.map (fun i => decide (i < n)) (List.range m)).count false = m - n := by
        intro m
        induction m with
        | zero => simp
        | succ m ih =>
          rw [List.range_succ, List.map_append, List.count_append, ih]
          by_cases hm : m < n
          · simp [hm]; omega
          · simp [hm]; omega
      exact this _
    rw [hcount] at hc
    subst hc
    refine wpAny_tail hf _ n a w (by omega) (Nat.le_refl _) (fin a w ⟨st.inv, st.defers, st.size, fun i d hi hd => st.done i d (hall i (of_decide_eq_true hi)) hd, fun t ht => st.rest t fun i hi => ht i (decide_eq_true (hl i hi))⟩)
  intro fuel
  induction fuel with
  | zero =>
    intro listed a w hs hc hl st
    have hall : ∀ i, i < n → listed.getD i false = true := by
      intro i hi
      have hle := hf.le
      have hm : listed[i]'(by omega) ∈ listed.toList := by simp
      have := List.count_eq_zero.mp hc
      cases hb : listed[i]'(by omega) with
      | true => simp [Array.getD_eq_getD_getElem?, Array.getElem?_eq_getElem (show i < listed.size by omega), hb]
      | false => rw [hb] at hm; exact absurd hm this
    exact all 0 listed a w hs hc hl hall st
  | succ fuel ih =>
    intro listed a w hs hc hl st
    by_cases hall : ∀ i, i < n → listed.getD i false = true
    · exact all _ listed a w hs hc hl hall st
    have hle := hf.le
    have hex : ∃ i, i < n ∧ listed.getD i false = false := by
      apply Decidable.byContradiction
      intro hno
      apply hall
      intro i hi
      cases hb : listed.getD i false with
      | true => rfl
      | false => exact absurd ⟨i, hi, hb⟩ hno
    refine ⟨fun hr => ?_, fun i hi => ?_⟩
    · exfalso
      apply hall
      intro i
      induction i using Nat.strongRecOn with
      | _ i ih2 =>
        intro hi
        apply Decidable.byContradiction
        intro hn
        have hno : i ∉ Region.ready .any ops listed := by rw [hr]; simp
        apply hno
        rw [mem_ready]
        have hg : listed[i]? = some listed[i] := Array.getElem?_eq_getElem (by omega)
        refine ⟨?_, ops[i], Array.getElem?_eq_getElem (by omega), fun e he _ => ?_⟩
        · simp only [Array.getD_eq_getD_getElem?, hg, Option.getD_some] at hn ⊢
          simpa using hn
        · have := hf.back i ops[i] hi (Array.getElem?_eq_getElem (by omega)) e he
          exact ih2 e.on this (by omega)
    · rw [mem_ready] at hi
      obtain ⟨hl2, o, ho, hdep⟩ := hi
      have hlt := (Array.getElem?_eq_some_iff.1 ho).1
      have hin : i < n := by
        apply Decidable.byContradiction
        intro hn
        obtain ⟨j, hj, hjf⟩ := hex
        obtain ⟨e, he, hb, rfl⟩ := hf.tail i o j (by omega) (by omega) ho
        rw [hdep e he hb] at hjf
        cases hjf
      refine wpOp_mono ?_ (step i o _ a w hin ho st hl hdep)
      rintro a' w' ⟨v, rfl, hJ, hG, hv⟩
      have hli : listed[i]? = some false := by
        have hg : listed[i]? = some listed[i] := Array.getElem?_eq_getElem (by omega)
        simp only [Array.getD_eq_getD_getElem?, hg, Option.getD_some] at hl2
        rw [hg, hl2]
      have e : (fun j => if j = i then true else listed.getD j false) = fun j => (listed.setIfInBounds i true).getD j false := by
        funext j
        by_cases hji : j = i
        · subst hji; simp [Array.getD_eq_getD_getElem?, show j < listed.size by omega]
        · simp [Array.getD_eq_getD_getElem?, hji, Ne.symm hji]
      apply ih _ _ _ (by simpa using hs)
      · have := count_set listed.toList i (by simpa using hli)
        rw [Array.toList_setIfInBounds]; omega
      · intro j hj
        have := congrFun e j
        rw [hj] at this
        by_cases hji : j = i
        · subst hji; exact hin
        · simp only [hji, if_false] at this
          exact hl j this
      · have hp := st.put hf hl (mono := fun j u hu => mono j u w w' hu hG) hin ho (by simp [Array.getD_eq_getD_getElem?, hli]) v hJ hv
        rw [e] at hp; exact hp
end

/-- What an operation awaits of the one that it leaves its value to: this value; or a value of this kind. -/
inductive Kind where
  | eq (x : Value)
  | of (p : Value → World → Prop)
def Kind.holds : Kind → Value → World → Prop
  | .eq x, v, _ => v = x
  | .of p, v, w => p v w
def kindAt (ks : List Kind) (i : Nat) : Kind := (ks[i]?).getD (.of fun _ _ => True)
/-- the frame behind the first operations, in the text's order -/
def finK (w : World) (R : Act → Prop) : List Kind → List Oper → Act → Prop
  | .eq x :: ks, o :: os, a => finK w R ks os (a.put o.dst x)
  | .of p :: ks, o :: os, a => ∀ v, p v w → finK w R ks os (a.put o.dst v)
  | _, _, a => R a

section
variable {P : Program} {ops : Array Oper} {Q : Exit → Act → World → Prop} {J : World → Prop} {a0 : Act} {ks : List Kind}
/-- the state, by kinds -/
abbrev StK (ops : Array Oper) (ks : List Kind) (J : World → Prop) (a0 : Act) (listed : Nat → Bool) (a : Act) (w : World) : Prop :=
  St ops (fun i v w => (kindAt ks i).holds v w) J a0 listed a w
/-- what a step leaves: its value is of its kind, the invariant holds, nothing that was there has turned -/
def Post (ks : List Kind) (J : World → Prop) (i : Nat) (o : Oper) (a : Act) (w : World) : Act → World → Prop :=
  fun a' w' => ∃ v, a' = a.put o.dst v ∧ J w' ∧ Below w.heap.size w w' ∧ ∀ d, o.dst = some d → (kindAt ks i).holds v w'

/-- values put one behind the other -/
def puts : List Oper → List Value → Act → Act
  | o :: os, v :: vs, a => puts os vs (a.put o.dst v)
  | _, _, a => a
theorem puts_size : ∀ (os : List Oper) (vs : List Value) (a : Act), (puts os vs a).tmps.size = a.tmps.size ∧ (puts os vs a).defers = a.defers
  | [], _, a => ⟨rfl, rfl⟩
  | o :: os, [], a => ⟨rfl, rfl⟩
  | o :: os, v :: vs, a => by
    have := puts_size os vs (a.put o.dst v)
    rw [puts, this.1, this.2]
    cases o.dst <;> simp [Act.put]
theorem puts_other : ∀ (os : List Oper) (vs : List Value) (a : Act) (t : Tmp), (∀ o ∈ os, o.dst ≠ some t) → (puts os vs a).eval (.tmp t) = a.eval (.tmp t)
  | [], _, a, t, _ => rfl
  | o :: os, [], a, t, _ => rfl
  | o :: os, v :: vs, a, t, h => by
    rw [puts, puts_other os vs _ t (fun x hx => h x (by simp [hx]))]
    have := h o (by simp)
    cases hd : o.dst with
    | none => rfl
    | some d => exact eval_put_other _ _ _ _ (by intro e; subst e; exact this hd)
theorem puts_at : ∀ (os : List Oper) (vs : List Value) (a : Act) (i : Nat) (t : Tmp) (o : Oper) (v : Value), os[i]? = some o → o.dst = some t → vs[i]? = some v → t < a.tmps.size → (∀ j x, os[j]? = some x → x.dst = some t → j = i) → (puts os vs a).eval (.tmp t) = v
  | [], _, a, i, t, o, v, h, _, _, _, _ => by simp at h
  | o' :: os, [], a, i, t, o, v, _, _, h, _, _ => by simp at h
  | o' :: os, v' :: vs, a, 0, t, o, v, h, hd, hv, hs, hu => by
    have : o' = o := by simpa using h
    subst this
    have : v' = v := by simpa using hv
    subst this
    rw [puts, puts_other os vs _ t (fun x hx hx' => by
      obtain ⟨j, hj⟩ := List.mem_iff_getElem?.1 hx
      have := hu (j + 1) x (by simpa using hj) hx'
      omega), hd]
    exact eval_put_same _ _ _ hs
  | o' :: os, v' :: vs, a, i + 1, t, o, v, h, hd, hv, hs, hu => by
    rw [puts]
    exact puts_at os vs _ i t o v (by simpa using h) hd (by simpa using hv) (by cases o'.dst <;> simp [Act.put, hs]) (fun j x hj hx => by
      have := hu (j + 1) x (by simpa using hj) hx
      omega)
theorem finK_puts {w : World} {R : Act → Prop} : ∀ (ks : List Kind) (os : List Oper) (vs : List Value) (a : Act), ks.length = os.length → vs.length = os.length → (∀ (i : Nat) v o, vs[i]? = some v → os[i]? = some o → (kindAt ks i).holds v w ∨ (o.dst = none)) → finK w R ks os a → (∀ o ∈ os, o.dst ≠ none) → R (puts os vs a)
  | [], [], _, a, _, _, _, h, _ => h
  | k :: ks, o :: os, v :: vs, a, h1, h2, hv, h, hn => by
    have h0 := (hv 0 v o rfl rfl).resolve_right (hn o (by simp))
    have hrec : ∀ a', finK w R ks os a' → R (puts os vs a') := fun a' h' => finK_puts ks os vs a' (by simpa using h1) (by simpa using h2) (fun i v o hv' ho' => hv (i + 1) v o (by simpa using hv') (by simpa using ho')) h' (fun x hx => hn x (by simp [hx]))
    cases k with
    | eq x =>
      have : v = x := h0
      subst this
      exact hrec _ h
    | of p => exact hrec _ (h v h0)
  | [], o :: os, _, _, h1, _, _, _, _ => by simp at h1
  | k :: ks, [], _, _, h1, _, _, _, _ => by simp at h1
  | k :: ks, o :: os, [], _, _, h2, _, _, _ => by simp at h2

theorem act_ext {a b : Act} (hd : a.defers = b.defers) (hs : a.tmps.size = b.tmps.size) (h : ∀ t, t < a.tmps.size → a.eval (.tmp t) = b.eval (.tmp t)) : a = b := by
  cases a with
  | mk ta da =>
    cases b with
    | mk tb db =>
      simp only at hd hs
      subst hd
      congr 1
      apply Array.ext hs
      intro i h1 h2
      have := h i h1
      simpa [Act.eval, Array.getD_eq_getD_getElem?, h1, h2] using this

/-- THE LAW, by kinds. -/
theorem region_kinds {id : Nat} {w : World} (n : Nat) (ks : List Kind) (J : World → Prop) (hm : P.follows .mixedOrders = true)
    (hf : fits ops n a0.tmps.size = true) (hk : ks.length = n) (hd : (ops.toList.take n).all (fun o => o.dst.isSome) = true) (start : J w.drew)
    (keep : ∀ p w w', (Kind.of p) ∈ ks → J w → Below w.heap.size w w' → ∀ v, p v w → p v w')
    (step : ∀ (i : Nat) (o : Oper) (listed : Nat → Bool) (a : Act) (w : World), i < n → ops[i]? = some o → StK ops ks J a0 listed a w → (∀ j, listed j = true → j < n) → (∀ e ∈ o.after, Region.binds .any e = true → listed e.on = true) →
      wpOp P ops Q i (Post ks J i o a w) a w)
    (fin : ∀ w, J w → finK w (fun a => wpList P ops Q (ops.toList.drop n) a w) ks (ops.toList.take n) a0) : (Code.region id ops true).wp P Q a0 w := by
  have hF := fits_spec hf
  have hle := hF.le
  refine wp_region_any hm (wpAny_inv (n := n) (V := fun i v w => (kindAt ks i).holds v w) (J := J) (G := fun x y => J x ∧ Below x.heap.size x y) hF ?_ ?_ ?_ ops.size _ a0 _ (by simp) (by simp) ?_ ?_)
  · intro i v x y hv ⟨hJ, hb⟩
    have hks : kindAt ks i = (ks[i]?).getD (.of fun _ _ => True) := rfl
    cases hi : ks[i]? with
    | none => rw [hks, hi]; exact trivial
    | some k =>
      rw [hks, hi] at hv ⊢
      cases k with
      | eq x => exact hv
      | of p => exact keep p x y (List.mem_of_getElem? hi) hJ hb v hv
  · intro i o listed a w hin ho st hl hdep
    exact wpOp_mono (fun a' w' ⟨v, h1, h2, h3, h4⟩ => ⟨v, h1, h2, ⟨st.inv, h3⟩, h4⟩) (step i o listed a w hin ho st hl hdep)
  · intro a w st
    have hdst : ∀ (i : Nat) (o : Oper), (ops.toList.take n)[i]? = some o → i < n ∧ ops[i]? = some o := by
      intro i o ho
      have hl := (List.getElem?_eq_some_iff.1 ho).1
      rw [List.length_take] at hl
      refine ⟨by omega, ?_⟩
      rw [List.getElem?_take_of_lt (by omega)] at ho
      simpa using ho
    have hsome : ∀ o ∈ ops.toList.take n, o.dst ≠ none := by
      intro o ho e
      have := List.all_eq_true.1 hd o ho
      rw [e] at this; cases this
    -- the values
    let vs : List Value := (ops.toList.take n).map (fun o => match o.dst with | some d => a.eval (.tmp d) | none => undef)
    have hvs : ∀ (i : Nat) (o : Oper) (d : Tmp), (ops.toList.take n)[i]? = some o → o.dst = some d → vs[i]? = some (a.eval (.tmp d)) := by
      intro i o d ho hd
      simp only [vs, List.getElem?_map, ho, Option.map_some, hd]
    have hR := finK_puts ks (ops.toList.take n) vs a0 (by rw [List.length_take, hk]; simp; omega) (by simp [vs]) (fun i v o hv ho => by
      obtain ⟨hi, ho'⟩ := hdst i o ho
      cases hod : o.dst with
      | none => exact .inr rfl
      | some d =>
        rw [hvs i o d ho hod] at hv
        injection hv with hv
        subst hv
        exact .inl (st.done i d (decide_eq_true hi) (by unfold dstOf; rw [ho']; exact hod))) (fin w st.inv) hsome
    have he : puts (ops.toList.take n) vs a0 = a := by
      have hp := puts_size (ops.toList.take n) vs a0
      refine act_ext (by rw [hp.2, st.defers]) (by rw [hp.1, st.size]) fun t ht => ?_
      rw [hp.1] at ht
      by_cases hex : ∃ i, i < n ∧ dstOf ops i = some t
      · obtain ⟨i, hi, hit⟩ := hex
        have hio : ops[i]? = some ops[i] := Array.getElem?_eq_getElem (by omega)
        have hot : ops[i].dst = some t := by unfold dstOf at hit; rw [hio] at hit; exact hit
        have hio' : (ops.toList.take n)[i]? = some ops[i] := by rw [List.getElem?_take_of_lt hi]; simpa using hio
        exact puts_at _ vs a0 i t ops[i] _ hio' hot (hvs i _ t hio' hot) ht (fun j x hj hx => by
          obtain ⟨hjn, hj'⟩ := hdst j x hj
          exact hF.uniq j i t hjn hi (by unfold dstOf; rw [hj']; exact hx) hit)
      · rw [puts_other _ vs a0 t (fun o ho hx => by
          obtain ⟨i, hi⟩ := List.mem_iff_getElem?.1 ho
          obtain ⟨hin, hi'⟩ := hdst i o hi
          exact hex ⟨i, hin, by unfold dstOf; rw [hi']; exact hx⟩)]
        exact (st.rest t fun i hi e => hex ⟨i, of_decide_eq_true hi, e⟩).symm
    rw [he] at hR
    exact hR
  · intro i hi
    have : (Array.replicate ops.size false).getD i false = false := by
      by_cases hi : i < ops.size <;> simp [Array.getD_eq_getD_getElem?, hi]
    rw [this] at hi; cases hi
  · have hz : ∀ i, (Array.replicate ops.size false).getD i false = false := by
      intro i
      by_cases hi : i < ops.size <;> simp [Array.getD_eq_getD_getElem?, hi]
    exact ⟨start, rfl, rfl, (fun i d hi _ => by rw [hz] at hi; exact absurd hi (by decide)), fun t _ => rfl⟩

/-- a slot that none of the first n writes -/
theorem St.old {V : Nat → Value → World → Prop} {listed : Nat → Bool} {a : Act} {w : World} (st : St ops V J a0 listed a w) {n : Nat} (hl : ∀ j, listed j = true → j < n) (t : Tmp) (h : (List.range n).all (fun i => !(dstOf ops i == some t)) = true) :
    a.eval (.tmp t) = a0.eval (.tmp t) := by
  refine st.rest t fun i hi e => ?_
  have := List.all_eq_true.mp h i (List.mem_range.mpr (hl i hi))
  rw [e] at this
  simp at this
theorem wpOp_wanted {i : Nat} {o : Oper} {a : Act} {w : World} {K : Act → World → Prop} (ho : ops[i]? = some o) (hg : Region.wanted o (yielded ops a.tmps) = true) (h : o.wp P a w K Q) : wpOp P ops Q i K a w := by
  unfold wpOp
  rw [ho]
  simp only [hg, if_true]
  exact .inl h
theorem step_value {i : Nat} {o : Oper} {a : Act} {w w' : World} (ho : ops[i]? = some o) (hg : Region.wanted o (yielded ops a.tmps) = true) (v : Value)
    (hrun : (execOp a.eval o).run P w = .ok (.value v) w') (hJ : J w') (hG : Below w.heap.size w w') (hv : (kindAt ks i).holds v w') :
    wpOp P ops Q i (Post ks J i o a w) a w := by
  refine wpOp_wanted ho hg ?_
  unfold Oper.wp
  rw [hrun, Oper.upon_value]
  exact ⟨v, rfl, hJ, hG, fun _ _ => hv⟩
theorem step_call {i : Nat} {o : Oper} {a : Act} {w : World} (ho : ops[i]? = some o) (hg : Region.wanted o (yielded ops a.tmps) = true) (f : FuncId) (args : Array Value)
    (hrun : (execOp a.eval o).run P w = .ok (.enter f args) w) (hc : Calls P f args w fun e w' => ∃ v, e = .returned v ∧ J w' ∧ Below w.heap.size w w' ∧ (kindAt ks i).holds v w') :
    wpOp P ops Q i (Post ks J i o a w) a w := by
  refine wpOp_wanted ho hg ?_
  unfold Oper.wp
  rw [hrun, Oper.upon_enter]
  refine hc.mono ?_
  rintro e w' ⟨v, rfl, hJ, hG, hv⟩
  exact ⟨v, rfl, hJ, hG, fun _ _ => hv⟩
/-- what is not wanted -/
theorem step_skip {i : Nat} {o : Oper} {a : Act} {w : World} (ho : ops[i]? = some o) (hg : Region.wanted o (yielded ops a.tmps) = false) (hJ : J w) (hv : (kindAt ks i).holds undef w) :
    wpOp P ops Q i (Post ks J i o a w) a w := by
  unfold wpOp
  rw [ho]
  simp only [hg]
  exact ⟨undef, rfl, hJ, Below.refl _ _, fun _ _ => hv⟩
theorem wanted_none {o : Oper} {y : Nat → Option Bool} (h : o.guard = none) : Region.wanted o y = true := by simp [Region.wanted, h]
/-- a guard that is known -/
theorem wanted_of {o : Oper} {a : Act} {j d : Nat} {b x : Bool} (h : o.guard = some (j, b)) (hd : dstOf ops j = some d) (hv : a.eval (.tmp d) = .bool x) : Region.wanted o (yielded ops a.tmps) = (x == b) := by
  have e : yielded ops a.tmps j = some x := by
    unfold dstOf at hd
    cases ho : ops[j]? with
    | none => rw [ho] at hd; simp at hd
    | some o' =>
      rw [ho] at hd
      have hd' : o'.dst = some d := hd
      have hv' : a.tmps.getD d undef = .bool x := hv
      have hg : a.tmps[d]? = some (.bool x) := by
        rw [Array.getD_eq_getD_getElem?] at hv'
        cases hh : a.tmps[d]? with
        | none => rw [hh] at hv'; exact absurd hv' (by simp [undef])
        | some u => rw [hh] at hv'; exact congrArg some hv'
      simp [yielded, ho, hd', hg]
  simp [Region.wanted, h, e]
end
end Go.Proofs.Ytepfgheliddpmaa.AnyOrder
