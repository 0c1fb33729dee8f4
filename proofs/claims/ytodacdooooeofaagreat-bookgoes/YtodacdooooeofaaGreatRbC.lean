/- A region that draws its order, one of whose operations stores: each operation's value is told once; what each leaves in the world is a mark of its own. No Go text. -/
import Derived.Test.YtodacdooooeofaaGreatOrder3
import Derived.Test.YtodacdooooeofaaGreatRbB
namespace Go.Proofs.YtodacdooooeofaaGreat.AnyOrder
open Go Go.RowKit
set_option linter.unnecessarySimpa false
set_option linter.unusedSimpArgs false
set_option linter.unusedVariables false

/-- the state within a region: what is listed has its value, and has left its mark -/
structure St5 (ops : Array Oper) (X : Nat → Value) (M : Nat → World → Prop) (J : World → Prop) (a0 : Act) (listed : Nat → Bool) (a : Act) (w : World) : Prop where
  inv : J w
  defers : a.defers = a0.defers
  size : a.tmps.size = a0.tmps.size
  done : ∀ i d, listed i = true → dstOf ops i = some d → a.eval (.tmp d) = X i
  rest : ∀ t, (∀ i, listed i = true → dstOf ops i ≠ some t) → a.eval (.tmp t) = a0.eval (.tmp t)
  mark : ∀ i, listed i = true → M i w
section
variable {P : Program} {ops : Array Oper} {Q : Exit → Act → World → Prop}
variable {X : Nat → Value} {M : Nat → World → Prop} {J : World → Prop} {a0 : Act}
theorem St5.toSt {listed : Nat → Bool} {a : Act} {w : World} (h : St5 ops X M J a0 listed a w) : St ops (fun i v _ => v = X i) J a0 listed a w := ⟨h.inv, h.defers, h.size, h.done, h.rest⟩
theorem St5.old {listed : Nat → Bool} {a : Act} {w : World} (st : St5 ops X M J a0 listed a w) {n : Nat} (hl : ∀ j, listed j = true → j < n) (t : Tmp) (h : (List.range n).all (fun i => !(dstOf ops i == some t)) = true) : a.eval (.tmp t) = a0.eval (.tmp t) := st.toSt.old hl t h
theorem wpAny_inv5 {n : Nat} (hf : Fits2 ops n a0.tmps.size none)
    (step : ∀ (i : Nat) (o : Oper) (listed : Nat → Bool) (a : Act) (w : World), i < n → ops[i]? = some o → St5 ops X M J a0 listed a w → (∀ j, listed j = true → j < n) → (∀ e ∈ o.after, Region.binds .any e = true → listed e.on = true) →
      wpOp P ops Q i (fun a' w' => ∃ v, a' = a.put o.dst v ∧ J w' ∧ (∀ d, o.dst = some d → v = X i) ∧ ∀ j, j = i ∨ listed j = true → M j w') a w)
    (fin : ∀ a w, St5 ops X M J a0 (fun i => decide (i < n)) a w → wpList P ops Q (ops.toList.drop n) a w) :
    ∀ (fuel : Nat) (listed : Array Bool) (a : Act) (w : World), listed.size = ops.size → listed.toList.count false = fuel → (∀ i, listed.getD i false = true → i < n) →
      St5 ops X M J a0 (fun i => listed.getD i false) a w → wpAny P .any ops Q fuel listed a w := by
  have hle := hf.le
  have getb : ∀ (listed : Array Bool) (i : Nat), listed.size = ops.size → i < ops.size → ∃ b, listed[i]? = some b ∧ listed.getD i false = b ∧ listed.getD i true = b := by
    intro listed i hs hi
    have hg : listed[i]? = some listed[i] := Array.getElem?_eq_getElem (by omega)
    exact ⟨_, hg, by rw [Array.getD_eq_getD_getElem?, hg]; rfl, by rw [Array.getD_eq_getD_getElem?, hg]; rfl⟩
  have all : ∀ (fuel : Nat) (listed : Array Bool) (a : Act) (w : World), listed.size = ops.size → listed.toList.count false = fuel → (∀ i, listed.getD i false = true → i < n) → (∀ i, i < n → listed.getD i false = true) →
      St5 ops X M J a0 (fun i => listed.getD i false) a w → wpAny P .any ops Q fuel listed a w := by
    intro fuel listed a w hs hc hl hall st
    have e : listed = upTo ops n := by
      apply Array.ext_getElem?
      intro i
      by_cases hi : i < ops.size
      · rw [upTo_get hi]
        obtain ⟨b, h1, h2, _⟩ := getb listed i hs hi
        rw [h1]
        congr 1
        cases b with
        | true => exact (decide_eq_true (hl i h2)).symm
        | false => exact (decide_eq_false (fun hn => by rw [hall i hn] at h2; cases h2)).symm
      · rw [Array.getElem?_eq_none (by omega), Array.getElem?_eq_none (by rw [upTo_size]; omega)]
    subst e
    rw [count_upTo] at hc
    subst hc
    refine wpAny_tail2 hf _ n a w (by omega) (Nat.le_refl _) (fin a w ⟨st.inv, st.defers, st.size, fun i d hi hd => st.done i d (hall i (of_decide_eq_true hi)) hd, fun t ht => st.rest t fun i hi => ht i (decide_eq_true (hl i hi)), fun i hi => st.mark i (hall i (of_decide_eq_true hi))⟩)
  intro fuel
  induction fuel with
  | zero =>
    intro listed a w hs hc hl st
    have hall : ∀ i, i < n → listed.getD i false = true := by
      intro i hi
      have hm : listed[i]'(by omega) ∈ listed.toList := by simp
      have := List.count_eq_zero.mp hc
      cases hb : listed[i]'(by omega) with
      | true => simp [Array.getD_eq_getD_getElem?, Array.getElem?_eq_getElem (show i < listed.size by omega), hb]
      | false => rw [hb] at hm; exact absurd hm this
    exact all 0 listed a w hs hc hl hall st
  | succ fuel ih =>
    intro listed a w hs hc hl st
    by_cases hall : ∀ i, i < n → listed.getD i false = true
    · exact all _ listed a w hs hc hl hall st
    have hex : ∃ i, i < n ∧ listed.getD i false = false := by
      apply Decidable.byContradiction
      intro hno
      apply hall
      intro i hi
      cases hb : listed.getD i false with
      | true => rfl
      | false => exact absurd ⟨i, hi, hb⟩ hno
    refine ⟨fun hr => ?_, fun i hi => ?_⟩
    · exfalso
      apply hall
      intro i
      induction i using Nat.strongRecOn with
      | _ i ih2 =>
        intro hi
        apply Decidable.byContradiction
        intro hn
        have hno : i ∉ Region.ready .any ops listed := by rw [hr]; simp
        apply hno
        rw [mem_ready]
        obtain ⟨b, h1, h2, h3⟩ := getb listed i hs (by omega)
        refine ⟨?_, ops[i], Array.getElem?_eq_getElem (by omega), fun e he hb => ?_⟩
        · rw [h3]; rw [h2] at hn; simpa using hn
        · have := hf.back i ops[i] (Array.getElem?_eq_getElem (by omega)) e he hb
          exact ih2 e.on this (by omega)
    · rw [mem_ready] at hi
      obtain ⟨hl2, o, ho, hdep⟩ := hi
      have hlt := (Array.getElem?_eq_some_iff.1 ho).1
      obtain ⟨b, hb1, hb2, hb3⟩ := getb listed i hs hlt
      rw [hb3] at hl2
      subst hl2
      by_cases hin : i < n
      · refine wpOp_mono ?_ (step i o _ a w hin ho st hl hdep)
        rintro a' w' ⟨v, rfl, hJ, hv, hM⟩
        have e : (fun j => if j = i then true else listed.getD j false) = fun j => (listed.setIfInBounds i true).getD j false := by
          funext j
          by_cases hji : j = i
          · subst hji; simp [Array.getD_eq_getD_getElem?, show j < listed.size by omega]
          · simp [Array.getD_eq_getD_getElem?, hji, Ne.symm hji]
        apply ih _ _ _ (by simpa using hs)
        · have := count_set listed.toList i (by simpa using hb1)
          rw [Array.toList_setIfInBounds]; omega
        · intro j hj
          have := congrFun e j
          rw [hj] at this
          by_cases hji : j = i
          · subst hji; exact hin
          · simp only [hji, if_false] at this
            exact hl j this
        · have hp := st.toSt.put2 hf hl (mono := fun j u hu => hu) hin ho v hJ hv
          have hm5 : ∀ j, (if j = i then true else listed.getD j false) = true → M j w' := by
            intro j hj
            apply hM j
            by_cases hji : j = i
            · exact .inl hji
            · simp only [hji, if_false] at hj; exact .inr hj
          have hp2 : St5 ops X M J a0 (fun j => if j = i then true else listed.getD j false) (a.put o.dst v) w' := ⟨hp.inv, hp.defers, hp.size, hp.done, hp.rest, hm5⟩
          rw [e] at hp2; exact hp2
      · obtain ⟨j0, hj0, hjf⟩ := hex
        rcases hf.tail i o j0 (by omega) (by omega) ho with ⟨_, h1⟩ | ⟨e, he, hb, rfl⟩
        · cases h1
        · rw [hdep e he hb] at hjf; cases hjf

theorem finK_puts5 {w : World} {R : Act → Prop} : ∀ (xs : List Value) (os : List Oper) (vs : List Value) (a : Act), xs.length = os.length → vs.length = os.length → (∀ (i : Nat) v o, vs[i]? = some v → os[i]? = some o → v = xs.getD i undef) → finK w R (xs.map .eq) os a → R (puts os vs a)
  | [], [], _, a, _, _, _, h => h
  | x :: xs, o :: os, v :: vs, a, h1, h2, hv, h => by
    have h0 : v = x := hv 0 v o rfl rfl
    subst h0
    exact finK_puts5 xs os vs _ (by simpa using h1) (by simpa using h2) (fun i v o hv' ho' => by simpa using hv (i + 1) v o (by simpa using hv') (by simpa using ho')) h
  | [], o :: os, _, _, h1, _, _, _ => by simp at h1
  | x :: xs, [], _, _, h1, _, _, _ => by simp at h1
  | x :: xs, o :: os, [], _, _, h2, _, _ => by simp at h2
theorem fin_all5 {n : Nat} {xs : List Value} (hF : Fits2 ops n a0.tmps.size none) (hk : xs.length = n) (hnone : ∀ i, i < n → dstOf ops i = none → xs.getD i undef = undef) {R : Act → World → Prop} (a : Act) (w : World)
    (fin : finK w (fun a => R a w) (xs.map .eq) (ops.toList.take n) a0) (st : St5 ops (fun i => xs.getD i undef) M J a0 (fun i => decide (i < n)) a w) : R a w := by
  have hle := hF.le
  have hdst : ∀ (i : Nat) (o : Oper), (ops.toList.take n)[i]? = some o → i < n ∧ ops[i]? = some o := by
    intro i o ho
    have hl := (List.getElem?_eq_some_iff.1 ho).1
    rw [List.length_take] at hl
    refine ⟨by omega, ?_⟩
    rw [List.getElem?_take_of_lt (by omega)] at ho
    simpa using ho
  let vs : List Value := (ops.toList.take n).map (fun o => match o.dst with | some d => a.eval (.tmp d) | none => undef)
  have hvs : ∀ (i : Nat) (o : Oper) (d : Tmp), (ops.toList.take n)[i]? = some o → o.dst = some d → vs[i]? = some (a.eval (.tmp d)) := by
    intro i o d ho hd
    simp only [vs, List.getElem?_map, ho, Option.map_some, hd]
  have hR := finK_puts5 (R := fun a => R a w) xs (ops.toList.take n) vs a0 (by rw [List.length_take, hk]; simp; omega) (by simp [vs]) (fun i v o hv ho => by
    obtain ⟨hi, ho'⟩ := hdst i o ho
    have hdo : dstOf ops i = o.dst := by unfold dstOf; rw [ho']; rfl
    cases hod : o.dst with
    | none =>
      simp only [vs, List.getElem?_map, ho, Option.map_some, hod] at hv
      injection hv with hv
      rw [← hv]
      exact (hnone i hi (by rw [hdo, hod])).symm
    | some d =>
      rw [hvs i o d ho hod] at hv
      injection hv with hv
      subst hv
      exact st.done i d (decide_eq_true hi) (by rw [hdo, hod])) fin
  have he : puts (ops.toList.take n) vs a0 = a := by
    have hp := puts_size (ops.toList.take n) vs a0
    refine act_ext (by rw [hp.2, st.defers]) (by rw [hp.1, st.size]) fun t ht => ?_
    rw [hp.1] at ht
    by_cases hex : ∃ i, i < n ∧ dstOf ops i = some t
    · obtain ⟨i, hi, hit⟩ := hex
      have hio : ops[i]? = some ops[i] := Array.getElem?_eq_getElem (by omega)
      have hot : ops[i].dst = some t := by unfold dstOf at hit; rw [hio] at hit; exact hit
      have hio' : (ops.toList.take n)[i]? = some ops[i] := by rw [List.getElem?_take_of_lt hi]; simpa using hio
      exact puts_at _ vs a0 i t ops[i] _ hio' hot (hvs i _ t hio' hot) ht (fun j x hj hx => by
        obtain ⟨hjn, hj'⟩ := hdst j x hj
        exact hF.uniq j i t hjn hi (by unfold dstOf; rw [hj']; exact hx) hit)
    · rw [puts_other _ vs a0 t (fun o ho hx => by
        obtain ⟨i, hi⟩ := List.mem_iff_getElem?.1 ho
        obtain ⟨hin, hi'⟩ := hdst i o hi
        exact hex ⟨i, hin, by unfold dstOf; rw [hi']; exact hx⟩)]
      exact (st.rest t fun i hi e => hex ⟨i, of_decide_eq_true hi, e⟩).symm
  rw [he] at hR
  exact hR
/-- what a step leaves -/
def Post5 (xs : List Value) (M : Nat → World → Prop) (J : World → Prop) (listed : Nat → Bool) (i : Nat) (o : Oper) (a : Act) : Act → World → Prop :=
  fun a' w' => ∃ v, a' = a.put o.dst v ∧ J w' ∧ (∀ d, o.dst = some d → v = xs.getD i undef) ∧ ∀ j, j = i ∨ listed j = true → M j w'
/-- THE LAW -/
theorem region_put {id : Nat} {w : World} (n : Nat) (xs : List Value) (M : Nat → World → Prop) (J : World → Prop) (hm : P.follows .mixedOrders = true)
    (hf : fits2 ops n a0.tmps.size none = true) (hk : xs.length = n) (hnone : ∀ i, i < n → dstOf ops i = none → xs.getD i undef = undef) (start : J w.drew)
    (step : ∀ (i : Nat) (o : Oper) (listed : Nat → Bool) (a : Act) (w : World), i < n → ops[i]? = some o → St5 ops (fun i => xs.getD i undef) M J a0 listed a w → (∀ j, listed j = true → j < n) → (∀ e ∈ o.after, Region.binds .any e = true → listed e.on = true) →
      wpOp P ops Q i (Post5 xs M J listed i o a) a w)
    (fin : ∀ w, J w → (∀ i, i < n → M i w) → finK w (fun a => wpList P ops Q (ops.toList.drop n) a w) (xs.map .eq) (ops.toList.take n) a0) : (Code.region id ops true).wp P Q a0 w := by
  have hF := fits2_spec hf
  refine wp_region_any hm (wpAny_inv5 (n := n) (X := fun i => xs.getD i undef) (M := M) (J := J) hF ?_ (fun a w st => fin_all5 (R := fun a w => wpList P ops Q (ops.toList.drop n) a w) hF hk hnone a w (fin w st.inv (fun i hi => st.mark i (decide_eq_true hi))) st) ops.size _ a0 _ (by simp) (by simp) ?_ ?_)
  · intro i o listed a w hin ho st hl hdep
    exact step i o listed a w hin ho st hl hdep
  · intro i hi
    have : (Array.replicate ops.size false).getD i false = false := by
      by_cases hi : i < ops.size <;> simp [Array.getD_eq_getD_getElem?, hi]
    rw [this] at hi; cases hi
  · have hz : ∀ i, (Array.replicate ops.size false).getD i false = false := by
      intro i
      by_cases hi : i < ops.size <;> simp [Array.getD_eq_getD_getElem?, hi]
    exact ⟨start, rfl, rfl, (fun i d hi _ => by rw [hz] at hi; exact absurd hi (by decide)), (fun t _ => rfl), (fun i hi => by rw [hz] at hi; exact absurd hi (by decide))⟩
/-- an operation that yields a value and leaves the world as it is -/
theorem step5_value {xs : List Value} {listed : Nat → Bool} {i : Nat} {o : Oper} {a : Act} {w : World} (ho : ops[i]? = some o) (hg : Region.wanted o (yielded ops a.tmps) = true) (v : Value)
    (hrun : (execOp a.eval o).run P w = .ok (.value v) w) (hJ : J w) (hv : v = xs.getD i undef) (hM : ∀ j, listed j = true → M j w) (hi : M i w) : wpOp P ops Q i (Post5 xs M J listed i o a) a w := by
  refine wpOp_wanted ho hg ?_
  unfold Oper.wp
  rw [hrun, Oper.upon_value]
  exact ⟨v, rfl, hJ, fun _ _ => hv, fun j hj => hj.elim (fun e => e ▸ hi) (hM j)⟩
/-- the store -/
theorem step5_store {xs : List Value} {listed : Nat → Bool} {i : Nat} {o : Oper} {a : Act} {w w' : World} (ho : ops[i]? = some o) (hg : Region.wanted o (yielded ops a.tmps) = true) (hd : o.dst = none)
    (hrun : (execOp a.eval o).run P w = .ok .skip w') (hJ : J w') (hM : ∀ j, j = i ∨ listed j = true → M j w') : wpOp P ops Q i (Post5 xs M J listed i o a) a w := by
  refine wpOp_wanted ho hg ?_
  unfold Oper.wp
  rw [hrun, Oper.upon_skip, hd]
  have h2 : ∀ d, o.dst = some d → undef = xs.getD i undef := by intro d h; rw [hd] at h; cases h
  exact ⟨undef, by rw [hd], hJ, h2, hM⟩
end
end Go.Proofs.YtodacdooooeofaaGreat.AnyOrder
/- The document's own book: Next. -/
namespace Go.Proofs.YtodacdooooeofaaGreat
open Go.RowKit Go.Lib
open Sh.Plain (KV get put del Rise)
set_option linter.unusedVariables false
set_option linter.unusedSimpArgs false

def stepL (x y : K) : List K := if y.id ≠ x.id then [y] else if x.st < 4 then [x] else []
def liveN (u : U) (x : K) : List K := u.live.flatMap (stepL x)
def wasN (u : U) (x : K) : Bool := u.live.any (fun y => y.id == x.id)
def doneN (u : U) (x : K) : List K := if u.c.get 3 < ((u.done ++ [x]).length : Int) then (u.done ++ [x]).tail else u.done ++ [x]
/-- the book with a call as it is then -/
def nextU (u : U) (x : K) : U × Cg × Int :=
  if 3 < x.st then ({ u with live := liveN u x, done := doneN u x, ix := u.ix + 1 }, ⟨u.ix + 1, x, 0, 0⟩, 0)
  else if wasN u x = true then ({ u with live := liveN u x, ix := u.ix + 1 }, ⟨u.ix + 1, x, 0, 0⟩, 0)
  else if u.c.get 3 ≤ ((liveN u x).length : Int) then (zu, zg, 5)
  else ({ u with live := liveN u x ++ [x], ix := u.ix + 1 }, ⟨u.ix + 1, x, 0, 0⟩, 0)
theorem liveN_len (u : U) (x : K) : (liveN u x).length ≤ u.live.length := by
  unfold liveN
  generalize u.live = l
  induction l with
  | nil => simp
  | cons y l ih =>
    rw [List.flatMap_cons, List.length_append, List.length_cons]
    have : (stepL x y).length ≤ 1 := by
      unfold stepL
      by_cases h1 : y.id ≠ x.id
      · rw [if_pos h1]; simp
      · rw [if_neg h1]
        by_cases h2 : x.st < 4
        · rw [if_pos h2]; simp
        · rw [if_neg h2]; simp
    omega
/-- nothing at or above block B has turned -/
structure Abv (B : Nat) (w w' : World) : Prop where
  size : w.heap.size ≤ w'.heap.size
  block : ∀ b, B ≤ b → w'.heap[b]? = w.heap[b]?
theorem Abv.refl (B : Nat) (w : World) : Abv B w w := ⟨Nat.le_refl _, fun _ _ => rfl⟩
theorem Abv.trans {B : Nat} {a b c : World} (h : Abv B a b) (k : Abv B b c) : Abv B a c := ⟨Nat.le_trans h.size k.size, fun i hi => (k.block i hi).trans (h.block i hi)⟩
theorem Abv.drew {B : Nat} {a b : World} (h : Abv B a b) : Abv B a b.drew := ⟨h.size, h.block⟩
theorem Abv.cell {B : Nat} {w : World} {p : Addr} (hp : p.block < B) (u : Value) : Abv B w (w.setCell p u) := ⟨by simp [World.setCell], fun b hb => Below.heap_setCell w p u b (by omega)⟩
theorem Abv.row {B q : Nat} {w : World} (hq : q < B) (cs : Array Value) : Abv B w (w.setRow q cs) := ⟨by simp [World.setRow], fun b hb => by
  unfold World.setRow
  simp only [Array.getElem?_modify]
  rw [if_neg (by omega)]⟩
/-- a row in blocks from B on -/
def RdG (w : World) (B : Nat) (s : Sl) (xs : List K) : Prop := Sh.Rd Sh.eC w (s.v xs.length) xs ∧ ((s = s0 ∧ xs = []) ∨ ∃ b off cs, s.1 = some ⟨b, off, none⟩ ∧ B ≤ b ∧ At w b 40 cs)
theorem RdG.rdf {w : World} {B : Nat} {s : Sl} {xs : List K} (h : RdG w B s xs) : RdF w s xs := ⟨h.1, h.2.imp id (fun ⟨b, off, cs, e, _, ha⟩ => ⟨b, off, cs, e, ha⟩)⟩
theorem RdG.abv {w w' : World} {B : Nat} {s : Sl} {xs : List K} (h : RdG w B s xs) (ha : Abv B w w') : RdG w' B s xs := by
  refine ⟨?_, h.2.imp id (fun ⟨b, off, cs, e, hB, hat⟩ => ⟨b, off, cs, e, hB, (ha.block b hB).trans hat⟩)⟩
  obtain ⟨O, cap, e, hc, k⟩ := h.1
  refine ⟨O, cap, e, hc, fun i x hx => ?_⟩
  obtain ⟨b, off, e2, hb, k2⟩ := k i x hx
  refine ⟨b, off, e2, Nat.lt_of_lt_of_le hb ha.size, fun j u hu => ?_⟩
  have hB : B ≤ b := by
    rcases h.2 with ⟨_, h0⟩ | ⟨b', off', cs', e3, hB, hat⟩
    · subst h0; simp at hx
    · injection e with e _ _
      rw [e, e2] at e3
      injection e3 with e3
      injection e3 with e3 _
      omega
  have := k2 j u hu
  rw [← this]
  simp [World.cell?, ha.block b hB]
theorem own_at {w : World} {B : Nat} {v : Value} {xs : List K} (h : Sh.Own Sh.eC w B v xs) {g : Nat} (hg : v.ownBlock = some g) : ∃ cs, At w g 40 cs := by
  rcases h.2 with ⟨rfl, _⟩ | ⟨g', cap, cur, rfl, _, hh, _⟩
  · simp [Value.ownBlock] at hg
  · have : g' = g := by simpa [Value.ownBlock] using hg
    subst this
    exact ⟨cur, hh⟩
theorem RdG.of_own {w : World} {B : Nat} {v : Value} {xs : List K} (h : Sh.Own Sh.eC w B v xs) : ∃ s : Sl, v = s.v xs.length ∧ RdG w B s xs := by
  have hr := h.rd
  rcases h.form with ⟨rfl, rfl⟩ | ⟨g, cap, rfl, hc, hB, hlt⟩
  · exact ⟨s0, rfl, hr, .inl ⟨rfl, rfl⟩⟩
  · obtain ⟨cs, hat⟩ := own_at h rfl
    exact ⟨(some ⟨g, 0, none⟩, cap), rfl, hr, .inr ⟨g, 0, cs, rfl, hB, hat⟩⟩
theorem RdG.of_own2 {w : World} {B : Nat} {v : Value} {xs : List K} (h : Sh.Own Sh.eC w B v xs) (hne : xs ≠ []) : ∃ b cap, v = .slice (some ⟨b, 0, none⟩) xs.length cap ∧ xs.length ≤ cap ∧ RdG w B (some ⟨b, 0, none⟩, cap) xs := by
  have hr := h.rd
  rcases h.form with ⟨_, h0⟩ | ⟨g, cap, rfl, hc, hB, hlt⟩
  · exact absurd h0 hne
  · obtain ⟨cs, hat⟩ := own_at h rfl
    exact ⟨g, cap, rfl, hc, hr, .inr ⟨g, 0, cs, rfl, hB, hat⟩⟩
theorem run_tail1 (b n cap : Nat) (h1 : 1 ≤ n) (h2 : n ≤ cap) (h3 : cap ≠ 1) (W : World) : (Instr.slice 34 (.slice (some ⟨b, 0, none⟩) n cap) (some (.int .i64 1)) none none).run Tryz.prog W = .ok (.slice (some ⟨b, 8, none⟩) (n - 1) (cap - 1)) W := by
  have ht' : Tryz.prog.underlying 34 = some (.slice (Tryz.prog.elem 34)) := by simp [Program.elem, Sh.eC.hts, show 34 = Sh.eC.ts from rfl]
  have he : Tryz.prog.elem 34 = 40 := by simp [Program.elem, show 34 = Sh.eC.ts from rfl, Sh.eC.hts]; rfl
  obtain ⟨i, hi, hz, hs, hb⟩ := Sh.eC.info
  have hi' : Tryz.prog.info? 40 = some i := hi
  have hs' : i.size = 8 := hs
  have := run_slice_l W 34 (some ⟨b, 0, none⟩) n cap ht' .i64 1 (by omega) (by omega)
  rw [this, he]
  simp [Result.andThen, sliced, sizeOf, typeInfo, hi', hs', h3, Addr.add]
/-- the row behind its first -/
theorem RdG.tail {w : World} {B b cap : Nat} {x : K} {xs : List K} (h : RdG w B (some ⟨b, 0, none⟩, cap) (x :: xs)) : RdG w B (some ⟨b, 8, none⟩, cap - 1) xs := by
  obtain ⟨cs, hB, hat⟩ : ∃ cs, B ≤ b ∧ At w b 40 cs := by
    rcases h.2 with ⟨h0, _⟩ | ⟨b', off', cs', e3, hB, hat⟩
    · cases h0
    · injection e3 with e3
      injection e3 with e3 _
      subst e3
      exact ⟨cs', hB, hat⟩
  refine ⟨?_, .inr ⟨b, 8, cs, rfl, hB, hat⟩⟩
  obtain ⟨O, cap', e, hc, k⟩ := h.1
  injection e with e1 e2 e3
  subst e3
  refine ⟨_, _, rfl, by rw [List.length_cons] at hc; show xs.length ≤ cap - 1; omega, fun i y hy => ?_⟩
  obtain ⟨b', off', e4, hb, k2⟩ := k (i + 1) y (by simpa using hy)
  rw [← e1] at e4
  injection e4 with e4
  injection e4 with e5 e6
  subst e5; subst e6
  refine ⟨b, 8, rfl, hb, fun j u hu => ?_⟩
  have := k2 j u hu
  rw [show 8 + i * Sh.eC.s + j = 0 + (i + 1) * Sh.eC.s + j from by show 8 + i * 8 + j = 0 + (i + 1) * 8 + j; omega]
  exact this
/-- one row that the call owns -/
def OL (W wx : World) (lv : Value) (xs : List K) : Prop := Below W.heap.size W wx ∧ Sh.Own Sh.eC wx W.heap.size lv xs
theorem OL.step {W wx wy : World} {lv : Value} {xs : List K} (h : OL W wx lv xs) (hb : Below wx.heap.size wx wy) : OL W wy lv xs := ⟨h.1.trans (hb.mono h.1.size), h.2.below hb⟩
theorem OL.new (W : World) : OL W (W.alloc (.cells #[] 40)) (.slice (some ⟨W.heap.size, 0, none⟩) 0 0) [] := ⟨below_new _ _, Sh.Own.lit0 Sh.eC W (Nat.le_refl _)⟩
theorem OL.push {W wx : World} {lv : Value} {xs : List K} (h : OL W wx lv xs) (x : K) (hn : xs.length ≤ 100000) (ty : TypeId) :
    ∃ rv' w', (Builtin.append_ #[34, 34] ty #[lv, .slice (some ⟨wx.heap.size, 0, none⟩) 1 1]).run Tryz.prog (wx.alloc (.cells x.cells 40)) = .ok rv' w' ∧ OL W w' rv' (xs ++ [x]) := by
  have hb : Below wx.heap.size wx (wx.alloc (.cells x.cells 40)) := below_new _ _
  have ho := h.2.below hb
  have hs := h.1.size
  obtain ⟨rv', w', hr, o', c', l'⟩ := ho.push (x := x) (b := wx.heap.size) (off := 0) (cap := 1) (by simp; omega) (fun j u hu => by
    rw [Nat.zero_add, (At.new wx 40 x.cells).cell]
    simpa [Sh.eC] using hu) (by omega) ty
  exact ⟨rv', w', hr, (h.1.trans (hb.mono hs)).trans (c'.below' ho (by simp; omega)), o'⟩
/-- two rows that the call owns, one in blocks ahead of the other's -/
structure OT (W wx : World) (lv : Value) (xs : List K) (dv : Value) (ds : List K) : Prop where
  bel : Below W.heap.size W wx
  l : Sh.Own Sh.eC wx W.heap.size lv xs
  d : Sh.Own Sh.eC wx W.heap.size dv ds
  ne : ∀ k, lv.ownBlock = some k → dv.ownBlock ≠ some k
theorem OT.pushD {W wx : World} {lv dv : Value} {xs ds : List K} (h : OT W wx lv xs dv ds) (x : K) (hn : ds.length ≤ 100000) (ty : TypeId) :
    ∃ rv' w', (Builtin.append_ #[34, 34] ty #[dv, .slice (some ⟨wx.heap.size, 0, none⟩) 1 1]).run Tryz.prog (wx.alloc (.cells x.cells 40)) = .ok rv' w' ∧ OT W w' lv xs rv' (ds ++ [x]) := by
  have hb : Below wx.heap.size wx (wx.alloc (.cells x.cells 40)) := below_new _ _
  have ho := h.d.below hb; have hl := h.l.below hb
  have hs := h.bel.size
  obtain ⟨rv', w', hr, o', c', l'⟩ := ho.push (x := x) (b := wx.heap.size) (off := 0) (cap := 1) (by simp; omega) (fun j u hu => by
    rw [Nat.zero_add, (At.new wx 40 x.cells).cell]
    simpa [Sh.eC] using hu) (by omega) ty
  refine ⟨rv', w', hr, (h.bel.trans (hb.mono hs)).trans (c'.below' ho (by simp; omega)), hl.chg c' (fun k hk hd => h.ne k hk hd), o', fun k hk hk2 => ?_⟩
  have := l'.old hk2 (h.l.lt hk |>.2 |> fun q => by simp; omega)
  exact h.ne k hk this
theorem OT.pushL {W wx : World} {lv dv : Value} {xs ds : List K} (h : OT W wx lv xs dv ds) (x : K) (hn : xs.length ≤ 100000) (ty : TypeId) :
    ∃ rv' w', (Builtin.append_ #[34, 34] ty #[lv, .slice (some ⟨wx.heap.size, 0, none⟩) 1 1]).run Tryz.prog (wx.alloc (.cells x.cells 40)) = .ok rv' w' ∧ OT W w' rv' (xs ++ [x]) dv ds := by
  have h' : OT W wx dv ds lv xs := ⟨h.bel, h.d, h.l, fun k hk hk2 => h.ne k hk2 hk⟩
  obtain ⟨rv', w', hr, o⟩ := h'.pushD x hn ty
  exact ⟨rv', w', hr, o.bel, o.d, o.l, fun k hk hk2 => o.ne k hk2 hk⟩
/-- the copy of a row that can be read -/
theorem OL.copy {W wx : World} {lv : Value} {xs : List K} (h : OL W wx lv xs) {s : Sl} {ds : List K} (hd : RdF wx s ds) (hn : ds.length ≤ 100000) (ty : TypeId) :
    ∃ dv w', (Builtin.append_ #[34, 34] ty #[.slice (some ⟨wx.heap.size, 0, none⟩) 0 0, .slice s.1 ds.length s.2]).run Tryz.prog (wx.alloc (.cells #[] 40)) = .ok dv w' ∧ OT W w' lv xs dv ds := by
  have hb : Below wx.heap.size wx (wx.alloc (.cells #[] 40)) := below_new _ _
  have hl := h.2.below hb
  have ho : Sh.Own Sh.eC (wx.alloc (.cells #[] 40)) wx.heap.size (.slice (some ⟨wx.heap.size, 0, none⟩) 0 0) [] := Sh.Own.lit0 Sh.eC wx (Nat.le_refl _)
  have hd2 := hd.step hb
  obtain ⟨dv, w', hr, o', c', l'⟩ := ho.join (u := .slice s.1 ds.length s.2) (us := ds) (by simp) (by
    rcases hd2.2 with ⟨rfl, rfl⟩ | ⟨b, off, cs, e, _⟩
    · exact .inl ⟨rfl, rfl⟩
    · refine .inr ⟨b, off, s.2, by rw [e], fun i x hx j y hy => ?_⟩
      obtain ⟨O, cap, e2, _, k⟩ := hd2.1
      injection e2 with e3 _ _
      obtain ⟨b', off', e4, _, k2⟩ := k i x hx
      rw [← e3, e] at e4
      injection e4 with e4
      injection e4 with e5 e6
      subst e5; subst e6
      exact k2 j y hy) (by simp; omega) ty
  have hne : ∀ k, lv.ownBlock = some k → k < wx.heap.size := fun k hk => (h.2.lt hk).2
  refine ⟨dv, w', hr, (h.1.trans (hb.mono h.1.size)).trans ((c'.below' ho (by simp)).mono h.1.size), hl.chg c' (fun k hk hd => ?_), (by simpa using o'.mono h.1.size), fun k hk hk2 => ?_⟩
  · have := hne k hk
    have e : wx.heap.size = k := by simpa [Value.ownBlock] using hd
    omega
  · have h1 := hne k hk
    have h2 := (o'.lt hk2).1
    omega
/-- what stands in Next's blocks, ahead of its rows -/
structure TL (w wx : World) (B g s q r : Nat) (u : U) (sl sd : Sl) (x : K) : Prop where
  bel : Below w.heap.size w wx
  bk : UkAt wx g u sl sd
  k : KAt wx s x
  ans : ∃ z a b, UkAt wx q z a b
  an2 : CgAt wx r zg
  lo : w.heap.size ≤ g ∧ w.heap.size ≤ q ∧ w.heap.size ≤ r
  hi : g < B ∧ q < B ∧ r < B
  ne : g ≠ q
theorem TL.new (w : World) (u : U) (sl sd : Sl) (x : K) : ∀ W, W = (((w.alloc (.cells (u.cells sl sd) 36)).alloc (.cells x.cells 40)).alloc (.cells Z26 36)).alloc (.cells Z11 42) → TL w W W.heap.size w.heap.size (w.heap.size + 1) (w.heap.size + 1 + 1) (w.heap.size + 1 + 1 + 1) u sl sd x := by
  rintro W rfl
  obtain ⟨h1, h2, h3, h4, h5⟩ := new4 w (u.cells sl sd) x.cells Z26 Z11 36 40 36 42
  have hs : ((((w.alloc (.cells (u.cells sl sd) 36)).alloc (.cells x.cells 40)).alloc (.cells Z26 36)).alloc (.cells Z11 42)).heap.size = w.heap.size + 4 := by simp
  exact ⟨h1, h2, h3, ⟨zu, s0, s0, h4⟩, h5, ⟨by omega, by omega, by omega⟩, by rw [hs]; omega, by omega⟩
section
variable {w W wx wy : World} {B g s q r : Nat} {u u' : U} {sl sd sl' sd' : Sl} {x : K}
theorem TL.step (h : TL w W B g s q r u sl sd x) (hb : Below W.heap.size W wx) : TL w wx B g s q r u sl sd x := by
  obtain ⟨z, a, b, hz⟩ := h.ans
  exact ⟨h.bel.trans (hb.mono h.bel.size), At.step h.bk hb, h.k.step hb, ⟨z, a, b, At.step hz hb⟩, At.step h.an2 hb, h.lo, h.hi, h.ne⟩
theorem TL.one (h : TL w wx B g s q r u sl sd x) {i : Nat} {v : Value} (hb : UkAt (wx.setCell ⟨g, i, none⟩ v) g u' sl' sd') : TL w (wx.setCell ⟨g, i, none⟩ v) B g s q r u' sl' sd' x := by
  obtain ⟨z, a, b, hz⟩ := h.ans
  exact ⟨h.bel.setCell h.lo.1 _, hb, At.far h.k (At.ne h.k h.bk (by decide)) _, ⟨z, a, b, At.far hz (Ne.symm h.ne) _⟩, At.far h.an2 (At.ne h.an2 h.bk (by decide)) _, h.lo, h.hi, h.ne⟩
theorem TL.put (h : TL w wx B g s q r u sl sd x) : TL w (wx.setRow q (u.cells sl sd)) B g s q r u sl sd x ∧ UkAt (wx.setRow q (u.cells sl sd)) q u sl sd := by
  obtain ⟨z, a, b, hz⟩ := h.ans
  have hq : UkAt (wx.setRow q (u.cells sl sd)) q u sl sd := At.setRow hz _
  exact ⟨⟨setRow_below h.bel h.lo.2.1 _, At.farRow h.bk h.ne, At.farRow h.k (At.ne h.k hz (by decide)), ⟨u, sl, sd, hq⟩, At.farRow h.an2 (At.ne h.an2 hz (by decide)), h.lo, h.hi, h.ne⟩, hq⟩
theorem TL.drew (h : TL w wx B g s q r u sl sd x) : TL w wx.drew B g s q r u sl sd x := ⟨⟨h.bel.os, h.bel.tape, h.bel.output, h.bel.size, h.bel.block⟩, h.bk, h.k, h.ans, h.an2, h.lo, h.hi, h.ne⟩
/-- the answer -/
theorem TL.fin (h : TL w wx B g s q r u sl sd x) {z : U} {a b : Sl} (hq : UkAt wx q z a b) (c : Cg) (n : Int) (hrr : UAt (wx.setRow r c.cells) z a b) :
    UkAt (wx.setRow r c.cells) q z a b ∧ CgAt (wx.setRow r c.cells) r c ∧ U3 w (z, c, n) (.returned (.tuple #[z.V a b, c.V, .int .i64 n])) (wx.setRow r c.cells) :=
  ⟨At.farRow hq (At.ne hq h.an2 (by decide)), At.setRow h.an2 _, a, b, rfl, hrr, setRow_below h.bel h.lo.2.2 _⟩
end
theorem built_nx (k : K) (n : Int) : Tryz.prog.built 42 [(0, .int .i64 n), (1, k.V)] = some (⟨n, k, 0, 0⟩ : Cg).cells := by kernel_rfl
theorem liveN_take (u : U) (x : K) (j : Nat) : ((u.live.take j).flatMap (stepL x)).length ≤ u.live.length := by
  have := liveN_len { u with live := u.live.take j } x
  refine Nat.le_trans this ?_
  show (u.live.take j).length ≤ _
  rw [List.length_take]; omega
theorem run_build_nx {ρ : Operand → Value} {w : World} {x y : Tmp} {n : Int} {k : K} {d : Option Tmp} {t : TypeId} {pos : String} {af : Array Edge} {gd : Option (Nat × Bool)} (e1 : ρ (.tmp x) = .int .i64 n) (e2 : ρ (.tmp y) = k.V) :
    (execOp ρ { dst := d, op := Op.build 42 #[(0, .tmp x), (1, .tmp y)], type := t, pos := pos, after := af, guard := gd }).run Tryz.prog w = .ok (.value (⟨n, k, 0, 0⟩ : Cg).V) w := by
  have hf : Tryz.prog.built 42 ((#[(0, Operand.tmp x), (1, .tmp y)] : Array (Nat × Operand)).map fun (i, u) => (i, ρ u)).toList = some (⟨n, k, 0, 0⟩ : Cg).cells := by
    simp only [List.map_toArray, List.map_cons, List.map_nil, e1, e2]
    exact built_nx k n
  unfold execOp
  simp only [Sem.run_bind, run_build w 42 _ _ hf, Result.andThen_ok, Sem.run_pure]
end Go.Proofs.YtodacdooooeofaaGreat
