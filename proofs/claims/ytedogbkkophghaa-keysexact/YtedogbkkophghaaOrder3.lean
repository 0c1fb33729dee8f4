/- A region that draws its order with one store behind, where the last operation's run is known behind the store too. No Go text. -/
import Derived.Test.YtedogbkkophghaaOrder2
namespace Go.Proofs.Ytedogbkkophghaa.AnyOrder
open Go Go.RowKit
set_option linter.unnecessarySimpa false
set_option linter.unusedSimpArgs false
set_option linter.unusedVariables false

section
variable {P : Program} {ops : Array Oper} {Q : Exit → Act → World → Prop} {J : World → Prop} {a0 : Act} {ks : List Kind}
/-- THE LAW of a region with one store behind: the store is of slot y into slot x, and need not wait for operation f, which makes vf of slot r's value tv whatever the world is. -/
theorem region_store2 {id : Nat} {w : World} (n : Nat) (ks : List Kind) (J : World → Prop) (f df x y : Nat) (ty : TypeId) (vf : Value) (of os : Oper) (hm : P.follows .mixedOrders = true)
    (hf : fits2 ops n a0.tmps.size (some f) = true) (hk : ks.length = n) (hd : (ops.toList.take n).all (fun o => o.dst.isSome) = true)
    (hof : ops[f]? = some of) (hos : ops[n]? = some os) (hfn : f < n) (hgf : of.guard = none) (hgs : os.guard = none) (hdf : of.dst = some df) (hds : os.dst = none) (hop : os.op = .store ty (.tmp x) (.tmp y)) (hxy : df ≠ x ∧ df ≠ y)
    (hkf : ks[f]? = some (.eq vf)) (hrun : ∀ (a : Act) (w w1 : World), J w → (∀ i d, i < n → i ≠ f → dstOf ops i = some d → (kindAt ks i).holds (a.eval (.tmp d)) w) → (∀ t, (∀ i, i < n → dstOf ops i ≠ some t) → a.eval (.tmp t) = a0.eval (.tmp t)) →
      (execOp a.eval os).run P w = .ok .skip w1 → (execOp a.eval of).run P w1 = .ok (.value vf) w1)
    (start : J w.drew)
    (keep : ∀ p w w', (Kind.of p) ∈ ks → J w → Below w.heap.size w w' → ∀ v, p v w → p v w')
    (step : ∀ (i : Nat) (o : Oper) (listed : Nat → Bool) (a : Act) (w : World), i < n → ops[i]? = some o → StK ops ks J a0 listed a w → (∀ j, listed j = true → j < n) → (∀ e ∈ o.after, Region.binds .any e = true → listed e.on = true) →
      wpOp P ops Q i (Post ks J i o a w) a w)
    (fin : ∀ w, J w → finK w (fun a => ∃ w1, (execOp a.eval os).run P w = .ok .skip w1 ∧ wpList P ops Q (ops.toList.drop (n + 1)) a w1) ks (ops.toList.take n) a0) : (Code.region id ops true).wp P Q a0 w := by
  have hF := fits2_spec hf
  have hle := hF.le
  obtain ⟨hx, hy⟩ := hxy
  have hnl : n < ops.size := (Array.getElem?_eq_some_iff.1 hos).1
  have hos' : ops[n] = os := (Array.getElem?_eq_some_iff.1 hos).2
  have wanted : ∀ (o : Oper) (y : Nat → Option Bool), o.guard = none → Region.wanted o y = true := fun o y h => by simp [Region.wanted, h]
  have hkind : ∀ (i : Nat) (u v : Value) (w : World), ks[i]? = some (.eq u) → (kindAt ks i).holds v w → v = u := by
    intro i u v w h hh
    unfold kindAt at hh; rw [h] at hh; exact hh
  refine wp_region_any hm (wpAny_inv2 (n := n) (f := some f) (V := fun i v w => (kindAt ks i).holds v w) (J := J) (G := fun x y => J x ∧ Below x.heap.size x y) hF (fun i v x y hv h => kinds_mono keep i v x y hv h) ?_ ?_ ?_ ops.size _ a0 _ (by simp) (by simp) ?_ (start_st start))
  · intro i o listed a w hin ho st hl hdep
    exact wpOp_mono (fun a' w' ⟨v, h1, h2, h3, h4⟩ => ⟨v, h1, h2, ⟨st.inv, h3⟩, h4⟩) (step i o listed a w hin ho st hl hdep)
  · intro a w st
    obtain ⟨w1, h1, h2⟩ := fin_all (R := fun a w => ∃ w1, (execOp a.eval os).run P w = .ok .skip w1 ∧ wpList P ops Q (ops.toList.drop (n + 1)) a w1) hF hk hd fin a w st
    have hcons : ops.toList.drop n = os :: ops.toList.drop (n + 1) := by
      rw [List.drop_eq_getElem_cons (by simpa using hnl)]; simp [hos']
    rw [hcons]
    unfold wpList
    rw [if_pos (wanted _ _ hgs)]
    refine .inl ?_
    unfold Oper.wp
    rw [h1, Oper.upon_skip, hds]
    exact h2
  · intro i a w hi hin _ st
    injection hi with hi
    subst hi
    have hb : ∀ j, (butOne ops n f).getD j false = (decide (j < n) && !decide (j = f)) := by
      intro j
      unfold butOne
      rw [Array.getD_eq_getD_getElem?, Array.getElem?_setIfInBounds, upTo_size]
      by_cases hj : j < ops.size
      · rw [upTo_get hj]
        by_cases e : f = j
        · subst e; simp [show f < ops.size by omega]
        · simp [e, Ne.symm e]
      · rw [Array.getElem?_eq_none (by rw [upTo_size]; omega)]
        by_cases e : f = j
        · subst e; omega
        · simp [e, show ¬ j < n by omega]
    have hin' : ∀ i, (butOne ops n f).getD i false = true → i < n := fun j hj => by rw [hb] at hj; simp at hj; exact hj.1
    have her : ∀ i d, i < n → i ≠ f → dstOf ops i = some d → (kindAt ks i).holds (a.eval (.tmp d)) w := fun i d hi hif hd => by
      refine st.done i d ?_ hd
      show (butOne ops n f).getD i false = true
      rw [hb]; simp [hi, hif]
    have hol : ∀ t, (∀ i, i < n → dstOf ops i ≠ some t) → a.eval (.tmp t) = a0.eval (.tmp t) := fun t ht => st.rest t fun i hi => ht i (hin' i hi)
    -- the other order: f first
    have st2 := st.put2 hF (fun j hj => by have hj' : (butOne ops n f).getD j false = true := hj; rw [hb] at hj'; simp at hj'; exact hj'.1) (mono := fun _ _ h => h) hfn hof vf st.inv (fun d hd => by
      show (kindAt ks f).holds vf w
      unfold kindAt; rw [hkf]; rfl)
    have e2 : (fun j => if j = f then true else (butOne ops n f).getD j false) = fun j => decide (j < n) := by
      funext j
      rw [hb]
      by_cases e : j = f
      · subst e; simp [hfn]
      · simp [e]
    rw [e2] at st2
    obtain ⟨w1, h1, h2⟩ := fin_all (R := fun a w => ∃ w1, (execOp a.eval os).run P w = .ok .skip w1 ∧ wpList P ops Q (ops.toList.drop (n + 1)) a w1) hF hk hd fin _ w st2
    have hex : execOp (a.put of.dst vf).eval os = execOp a.eval os := by
      unfold execOp
      simp only [hop, hdf]
      rw [eval_put_other a df x vf hx, eval_put_other a df y vf hy]
    rw [hex] at h1
    unfold wpOp
    simp only [hos, wanted _ _ hgs, if_true]
    refine .inl ?_
    unfold Oper.wp
    rw [h1, Oper.upon_skip, hds]
    show wpAny P .any ops Q (ops.size - n) ((butOne ops n f).setIfInBounds n true) a w1
    obtain ⟨m, hm⟩ : ∃ m, ops.size - n = m + 1 := ⟨ops.size - n - 1, by omega⟩
    rw [hm]
    have hg : ∀ j, j < ops.size → ((butOne ops n f).setIfInBounds n true)[j]? = some (decide (j < n + 1) && !decide (j = f)) := by
      intro j hj
      have h3 := hb j
      rw [Array.getD_eq_getD_getElem?] at h3
      rw [Array.getElem?_setIfInBounds]
      have hsz : (butOne ops n f).size = ops.size := by unfold butOne; rw [Array.size_setIfInBounds, upTo_size]
      by_cases e : n = j
      · subst e; simp [hsz, hj, show n ≠ f by omega]
      · rw [if_neg e]
        have hq : (butOne ops n f)[j]? = some (butOne ops n f)[j] := Array.getElem?_eq_getElem (by omega)
        rw [hq] at h3 ⊢
        congr 1
        have h4 : (butOne ops n f)[j] = (decide (j < n) && !decide (j = f)) := h3
        rw [h4]
        congr 1
        exact decide_eq_decide.2 (by omega)
    refine ⟨fun hr => ?_, fun i hi => ?_⟩
    · exfalso
      have hno : f ∉ Region.ready .any ops ((butOne ops n f).setIfInBounds n true) := by rw [hr]; simp
      apply hno
      rw [mem_ready]
      refine ⟨?_, of, hof, fun e he hbb => ?_⟩
      · rw [Array.getD_eq_getD_getElem?, hg f (by omega)]; simp
      · have := hF.back f of hof e he hbb
        rw [Array.getD_eq_getD_getElem?, hg e.on (by omega)]; simp; omega
    · rw [mem_ready] at hi
      obtain ⟨hl, o, ho, hdep⟩ := hi
      have hil := (Array.getElem?_eq_some_iff.1 ho).1
      rw [Array.getD_eq_getD_getElem?, hg i hil] at hl
      have hif : i = f := by
        apply Decidable.byContradiction
        intro hne
        simp [hne] at hl
        rcases hF.tail i o f (by omega) (by omega) ho with ⟨h3, _⟩ | ⟨e, he, hbb, rfl⟩
        · omega
        · have := hdep e he hbb
          rw [Array.getD_eq_getD_getElem?, hg e.on (by omega)] at this
          simp at this
      subst hif
      rw [hof] at ho
      injection ho with ho
      subst ho
      unfold wpOp
      simp only [hof, wanted _ _ hgf, if_true]
      refine .inl ?_
      unfold Oper.wp
      rw [hrun a w w1 st.inv her hol h1, Oper.upon_value]
      have hset : ((butOne ops n i).setIfInBounds n true).setIfInBounds i true = upTo ops (n + 1) := by
        apply Array.ext_getElem?
        intro k
        rw [Array.getElem?_setIfInBounds]
        have hsz : ((butOne ops n i).setIfInBounds n true).size = ops.size := by unfold butOne; rw [Array.size_setIfInBounds, Array.size_setIfInBounds, upTo_size]
        by_cases hk2 : k < ops.size
        · rw [upTo_get hk2, hg k hk2]
          by_cases e : i = k
          · subst e; simp [hsz, hk2]; omega
          · simp [e, Ne.symm e]
        · rw [Array.getElem?_eq_none (by omega), Array.getElem?_eq_none (by rw [upTo_size]; omega)]
          by_cases e : i = k
          · subst e; omega
          · simp [e]
      rw [hset]
      exact wpAny_tail2 hF m (n + 1) _ w1 (by omega) (by omega) h2
  · intro i hi
    have : (Array.replicate ops.size false).getD i false = false := by
      by_cases hi : i < ops.size <;> simp [Array.getD_eq_getD_getElem?, hi]
    rw [this] at hi; cases hi
end
theorem old_of {ops : Array Oper} {a a0 : Act} {n : Nat} (hr : ∀ t, (∀ i, i < n → dstOf ops i ≠ some t) → a.eval (.tmp t) = a0.eval (.tmp t)) (t : Tmp) (h : (List.range n).all (fun i => !(dstOf ops i == some t)) = true) : a.eval (.tmp t) = a0.eval (.tmp t) :=
  hr t fun i hi e => by
    have := List.all_eq_true.mp h i (List.mem_range.mpr hi)
    rw [e] at this
    simp at this
end Go.Proofs.Ytedogbkkophghaa.AnyOrder
