/- A law on a region that draws its order: whatever order is drawn, if each operation, once all that it waits for has been done, yields a value of its own kind and keeps the world's invariant, then in the end all values are of their kinds. No Go text. -/
import Derived.Orders
import Derived.WalkKit
namespace Go.Proofs.Ytljocchdmfeecaa.AnyOrder
open Go Go.RowKit

def dstOf (ops : Array Oper) (i : Nat) : Option Tmp := (ops[i]?).bind (·.dst)

/-- the state within a region: 'listed' is done; each value that was made is of its kind; every other slot is as it was -/
structure St (ops : Array Oper) (V : Nat → Value → World → Prop) (J : World → Prop) (a0 : Act) (listed : Nat → Bool) (a : Act) (w : World) : Prop where
  inv : J w
  defers : a.defers = a0.defers
  size : a.tmps.size = a0.tmps.size
  done : ∀ i d, listed i = true → dstOf ops i = some d → V i (a.eval (.tmp d)) w
  rest : ∀ t, (∀ i, listed i = true → dstOf ops i ≠ some t) → a.eval (.tmp t) = a0.eval (.tmp t)

theorem eval_put_same (a : Act) (d : Tmp) (v : Value) (h : d < a.tmps.size) : (a.put (some d) v).eval (.tmp d) = v := by
  simp [Act.put, Act.eval, h]
theorem eval_put_other (a : Act) (d t : Tmp) (v : Value) (h : d ≠ t) : (a.put (some d) v).eval (.tmp t) = a.eval (.tmp t) := by
  simp [Act.put, Act.eval, Array.getD_eq_getD_getElem?, h]

/-- no two operations write one slot, each slot is there, and each operation waits for earlier ones alone -/
def fits (ops : Array Oper) (n : Nat) : Bool :=
  (List.range ops.size).all fun i =>
    (match dstOf ops i with
      | some d => decide (d < n) && (List.range ops.size).all fun j => i == j || !(dstOf ops j == some d)
      | none => true) &&
    ((ops[i]?).map (·.after.all fun e => decide (e.on < i))).getD true

section
variable {P : Program} {ops : Array Oper} {Q : Exit → Act → World → Prop} {md : Region.Mode}
variable {V : Nat → Value → World → Prop} {J : World → Prop} {G : World → World → Prop} {a0 : Act}

theorem dstOf_lt {i : Nat} {d : Tmp} (h : dstOf ops i = some d) : i < ops.size := by
  unfold dstOf at h
  cases ho : ops[i]? with
  | none => rw [ho] at h; simp at h
  | some o => exact (Array.getElem?_eq_some_iff.1 ho).1

theorem fits_spec {n : Nat} (h : fits ops n = true) :
    (∀ i d, dstOf ops i = some d → d < n) ∧ (∀ i j d, dstOf ops i = some d → dstOf ops j = some d → i = j) ∧ (∀ (i : Nat) (o : Oper), ops[i]? = some o → ∀ e ∈ o.after, e.on < i) := by
  unfold fits at h
  rw [List.all_eq_true] at h
  refine ⟨fun i d hd => ?_, fun i j d hd hj => ?_, fun i o ho e he => ?_⟩
  · have := h i (List.mem_range.mpr (dstOf_lt hd))
    rw [hd] at this
    simp only [Bool.and_eq_true, decide_eq_true_eq] at this
    exact this.1.1
  · have := h i (List.mem_range.mpr (dstOf_lt hd))
    rw [hd] at this
    simp only [Bool.and_eq_true, List.all_eq_true] at this
    have := this.1.2 j (List.mem_range.mpr (dstOf_lt hj))
    rw [hj] at this
    simpa using this
  · have := h i (List.mem_range.mpr (Array.getElem?_eq_some_iff.1 ho).1)
    simp only [Bool.and_eq_true, ho, Option.map_some, Option.getD_some, Array.all_eq_true_iff_forall_mem, decide_eq_true_eq] at this
    exact this.2 e he

theorem St.put (hf : fits ops a0.tmps.size = true) {listed : Nat → Bool} {a : Act} {w w' : World} (h : St ops V J a0 listed a w)
    (mono : ∀ i v, V i v w → V i v w') {i : Nat} {o : Oper} (ho : ops[i]? = some o) (hl : listed i = false) (v : Value) (hJ : J w') (hv : ∀ d, o.dst = some d → V i v w') :
    St ops V J a0 (fun j => if j = i then true else listed j) (a.put o.dst v) w' := by
  obtain ⟨h1, h2, _⟩ := fits_spec hf
  have hd : dstOf ops i = o.dst := by unfold dstOf; rw [ho]; rfl
  refine ⟨hJ, ?_, ?_, ?_, ?_⟩
  · cases o.dst <;> exact h.defers
  · cases o.dst with
    | none => exact h.size
    | some d => simp [Act.put]; exact h.size
  · intro j d hj hjd
    by_cases hji : j = i
    · subst hji
      rw [hd] at hjd
      rw [hjd, eval_put_same _ _ _ (by rw [h.size]; exact h1 j d (by rw [hd, hjd]))]
      exact hv d hjd
    · simp only [hji, if_false] at hj
      have := mono j _ (h.done j d hj hjd)
      cases hod : o.dst with
      | none => exact this
      | some d' =>
        rw [eval_put_other _ _ _ _ (by intro e; subst e; exact hji (h2 j i _ hjd (by rw [hd, hod])))]
        exact this
  · intro t ht
    have hti : o.dst ≠ some t := by have := ht i (by simp); rwa [hd] at this
    have hr := h.rest t (fun j hj => ht j (by by_cases e : j = i <;> simp [e, hj]))
    cases hod : o.dst with
    | none => exact hr
    | some d' => rw [eval_put_other _ _ _ _ (by intro e; subst e; exact hti hod)]; exact hr

theorem count_set (l : List Bool) (i : Nat) (hi : l[i]? = some false) : (l.set i true).count false + 1 = l.count false := by
  induction l generalizing i with
  | nil => simp at hi
  | cons b l ih =>
    cases i with
    | zero => simp at hi; subst hi; simp
    | succ i =>
      simp only [List.getElem?_cons_succ] at hi
      have := ih i hi
      simp only [List.set_cons_succ, List.count_cons]
      omega

theorem wpAny_inv (hf : fits ops a0.tmps.size = true) (mono : ∀ i v w w', V i v w → G w w' → V i v w')
    (step : ∀ (i : Nat) (o : Oper) (listed : Nat → Bool) (a : Act) (w : World), ops[i]? = some o → St ops V J a0 listed a w → (∀ e ∈ o.after, Region.binds md e = true → listed e.on = true) →
      wpOp P ops Q i (fun a' w' => ∃ v, a' = a.put o.dst v ∧ J w' ∧ G w w' ∧ ∀ d, o.dst = some d → V i v w') a w)
    (fin : ∀ a w, St ops V J a0 (fun i => decide (i < ops.size)) a w → Q .normal a w) :
    ∀ (fuel : Nat) (listed : Array Bool) (a : Act) (w : World), listed.size = ops.size → listed.toList.count false = fuel →
      St ops V J a0 (fun i => listed.getD i false) a w → wpAny P md ops Q fuel listed a w := by
  obtain ⟨_, _, h3⟩ := fits_spec hf
  have all : ∀ (listed : Array Bool) (a : Act) (w : World), listed.size = ops.size → (∀ i, i < ops.size → listed.getD i false = true) →
      St ops V J a0 (fun i => listed.getD i false) a w → Q .normal a w := by
    intro listed a w hs hall st
    refine fin a w ⟨st.inv, st.defers, st.size, fun i d hi hd => st.done i d (hall i (of_decide_eq_true hi)) hd, fun t ht => st.rest t fun i hi => ht i ?_⟩
    have : i < ops.size := by
      apply Decidable.byContradiction
      intro hn
      have : listed.getD i false = false := by simp [Array.getD_eq_getD_getElem?, Array.getElem?_eq_none (show listed.size ≤ i by omega)]
      rw [this] at hi; cases hi
    exact decide_eq_true this
  intro fuel
  induction fuel with
  | zero =>
    intro listed a w hs hc st
    have hall : ∀ i, i < ops.size → listed.getD i false = true := by
      intro i hi
      have hm : listed[i]'(by omega) ∈ listed.toList := by simp
      have := List.count_eq_zero.mp hc
      cases hb : listed[i]'(by omega) with
      | true => simp [Array.getD_eq_getD_getElem?, Array.getElem?_eq_getElem (show i < listed.size by omega), hb]
      | false => rw [hb] at hm; exact absurd hm this
    refine ⟨?_, all listed a w hs hall st⟩
    apply List.eq_nil_iff_forall_not_mem.mpr
    intro j hj
    rw [mem_ready] at hj
    obtain ⟨hj, o, ho, _⟩ := hj
    have hlt := (Array.getElem?_eq_some_iff.1 ho).1
    have := hall j hlt
    simp only [Array.getD_eq_getD_getElem?, Array.getElem?_eq_getElem (show j < listed.size by omega), Option.getD_some] at hj this
    rw [this] at hj; cases hj
  | succ fuel ih =>
    intro listed a w hs hc st
    refine ⟨fun hr => ?_, fun i hi => ?_⟩
    · apply all listed a w hs _ st
      intro i
      induction i using Nat.strongRecOn with
      | _ i ih2 =>
        intro hi
        apply Decidable.byContradiction
        intro hn
        have hno : i ∉ Region.ready md ops listed := by rw [hr]; simp
        apply hno
        rw [mem_ready]
        have hg : listed[i]? = some listed[i] := Array.getElem?_eq_getElem (by omega)
        refine ⟨?_, ops[i], Array.getElem?_eq_getElem hi, fun e he _ => ?_⟩
        · simp only [Array.getD_eq_getD_getElem?, hg, Option.getD_some] at hn ⊢
          simpa using hn
        · have := h3 i ops[i] (Array.getElem?_eq_getElem hi) e he
          exact ih2 e.on this (by omega)
    · rw [mem_ready] at hi
      obtain ⟨hl, o, ho, hdep⟩ := hi
      have hlt := (Array.getElem?_eq_some_iff.1 ho).1
      refine wpOp_mono ?_ (step i o _ a w ho st hdep)
      rintro a' w' ⟨v, rfl, hJ, hG, hv⟩
      have hli : listed[i]? = some false := by
        have hg : listed[i]? = some listed[i] := Array.getElem?_eq_getElem (by omega)
        simp only [Array.getD_eq_getD_getElem?, hg, Option.getD_some] at hl
        rw [hg, hl]
      apply ih _ _ _ (by simpa using hs)
      · have := count_set listed.toList i (by simpa using hli)
        rw [Array.toList_setIfInBounds]; omega
      · have hp := st.put hf (mono := fun j u hu => mono j u w w' hu hG) ho (by simp [Array.getD_eq_getD_getElem?, hli]) v hJ hv
        have e : (fun j => if j = i then true else listed.getD j false) = fun j => (listed.setIfInBounds i true).getD j false := by
          funext j
          by_cases hji : j = i
          · subst hji; simp [Array.getD_eq_getD_getElem?, show j < listed.size by omega]
          · simp [Array.getD_eq_getD_getElem?, hji, Ne.symm hji]
        rw [e] at hp; exact hp

/-- THE LAW. -/
theorem region_any {id : Nat} {w : World} (hm : P.follows .mixedOrders = true) (V : Nat → Value → World → Prop) (J : World → Prop) (G : World → World → Prop)
    (hf : fits ops a0.tmps.size = true) (mono : ∀ i v w w', V i v w → G w w' → V i v w') (start : J w.drew)
    (step : ∀ (i : Nat) (o : Oper) (listed : Nat → Bool) (a : Act) (w : World), ops[i]? = some o → St ops V J a0 listed a w → (∀ e ∈ o.after, Region.binds .any e = true → listed e.on = true) →
      wpOp P ops Q i (fun a' w' => ∃ v, a' = a.put o.dst v ∧ J w' ∧ G w w' ∧ ∀ d, o.dst = some d → V i v w') a w)
    (fin : ∀ a w, St ops V J a0 (fun i => decide (i < ops.size)) a w → Q .normal a w) : (Code.region id ops true).wp P Q a0 w := by
  refine wp_region_any hm (wpAny_inv hf mono step fin ops.size _ a0 _ (by simp) ?_ ?_)
  · simp
  · have hz : ∀ i, (Array.replicate ops.size false).getD i false = false := by
      intro i
      by_cases hi : i < ops.size <;> simp [Array.getD_eq_getD_getElem?, hi]
    exact ⟨start, rfl, rfl, (fun i d hi _ => by rw [hz] at hi; exact absurd hi (by decide)), fun t _ => rfl⟩

/-- What an operation awaits of the one that it leaves its value to: this value; a row of these cells in a block of its own; whatever. -/
inductive Kind where
  | eq (x : Value)
  | row (cs : List Value)
  | whatever
def Kind.holds : Kind → Value → World → Prop
  | .eq x, v, _ => v = x
  | .row cs, v, w => ∃ b, v = .slice (some ⟨b, 0, none⟩) cs.length cs.length ∧ b < w.heap.size ∧ ∀ j u, cs[j]? = some u → w.cell? ⟨b, j, none⟩ = some u
  | .whatever, _, _ => True
def kindAt (ks : List Kind) (i : Nat) : Kind := (ks[i]?).getD .whatever
theorem Kind.mono (k : Kind) {v : Value} {w w' : World} (h : k.holds v w) (hb : Below w.heap.size w w') : k.holds v w' := by
  cases k with
  | eq x => exact h
  | row cs =>
    obtain ⟨b, hv, hlt, hc⟩ := h
    exact ⟨b, hv, Nat.lt_of_lt_of_le hlt hb.size, fun j u hj => by rw [hb.cell (by exact hlt)]; exact hc j u hj⟩
  | whatever => exact h

/-- a slot that no operation of the region writes -/
theorem St.old {listed : Nat → Bool} {a : Act} {w : World} (st : St ops V J a0 listed a w) (t : Tmp) (h : (List.range ops.size).all (fun i => !(dstOf ops i == some t)) = true) :
    a.eval (.tmp t) = a0.eval (.tmp t) := by
  refine st.rest t fun i _ e => ?_
  have := List.all_eq_true.mp h i (List.mem_range.mpr (dstOf_lt e))
  rw [e] at this
  simp at this

theorem wpOp_plain {i : Nat} {o : Oper} {a : Act} {w : World} {K : Act → World → Prop} (ho : ops[i]? = some o) (hg : o.guard = none) (h : o.wp P a w K Q) : wpOp P ops Q i K a w := by
  unfold wpOp
  rw [ho]
  simp only [Region.wanted, hg, if_true]
  exact .inl h
/-- what a step leaves: its value is of its kind, the invariant holds, nothing that was there has turned -/
def Post (ks : List Kind) (J : World → Prop) (i : Nat) (o : Oper) (a : Act) (w : World) : Act → World → Prop :=
  fun a' w' => ∃ v, a' = a.put o.dst v ∧ J w' ∧ Below w.heap.size w w' ∧ ∀ d, o.dst = some d → (kindAt ks i).holds v w'
/-- the state, by kinds -/
abbrev StK (ops : Array Oper) (ks : List Kind) (J : World → Prop) (a0 : Act) (listed : Nat → Bool) (a : Act) (w : World) : Prop :=
  St ops (fun i v w => (kindAt ks i).holds v w) J a0 listed a w
/-- THE LAW, by kinds. -/
theorem region_kinds {id : Nat} {w : World} (ks : List Kind) (J : World → Prop) (hm : P.follows .mixedOrders = true)
    (hf : fits ops a0.tmps.size = true) (start : J w.drew)
    (step : ∀ (i : Nat) (o : Oper) (listed : Nat → Bool) (a : Act) (w : World), ops[i]? = some o → StK ops ks J a0 listed a w → (∀ e ∈ o.after, Region.binds .any e = true → listed e.on = true) →
      wpOp P ops Q i (Post ks J i o a w) a w)
    (fin : ∀ a w, StK ops ks J a0 (fun i => decide (i < ops.size)) a w → Q .normal a w) : (Code.region id ops true).wp P Q a0 w :=
  region_any hm (fun i v w => (kindAt ks i).holds v w) J (fun x y => Below x.heap.size x y) hf (fun _ _ _ _ h hb => Kind.mono _ h hb) start step fin
variable {ks : List Kind}
theorem step_value {i : Nat} {o : Oper} {a : Act} {w w' : World} (ho : ops[i]? = some o) (hg : o.guard = none) (v : Value)
    (hrun : (execOp a.eval o).run P w = .ok (.value v) w') (hJ : J w') (hG : Below w.heap.size w w') (hv : (kindAt ks i).holds v w') :
    wpOp P ops Q i (Post ks J i o a w) a w := by
  refine wpOp_plain ho hg ?_
  unfold Oper.wp
  rw [hrun, Oper.upon_value]
  exact ⟨v, rfl, hJ, hG, fun _ _ => hv⟩
theorem step_call {i : Nat} {o : Oper} {a : Act} {w : World} (ho : ops[i]? = some o) (hg : o.guard = none) (f : FuncId) (args : Array Value)
    (hrun : (execOp a.eval o).run P w = .ok (.enter f args) w) (hc : Calls P f args w fun e w' => ∃ v, e = .returned v ∧ J w' ∧ Below w.heap.size w w' ∧ (kindAt ks i).holds v w') :
    wpOp P ops Q i (Post ks J i o a w) a w := by
  refine wpOp_plain ho hg ?_
  unfold Oper.wp
  rw [hrun, Oper.upon_enter]
  refine hc.mono ?_
  rintro e w' ⟨v, rfl, hJ, hG, hv⟩
  exact ⟨v, rfl, hJ, hG, fun _ _ => hv⟩
end
end Go.Proofs.Ytljocchdmfeecaa.AnyOrder
