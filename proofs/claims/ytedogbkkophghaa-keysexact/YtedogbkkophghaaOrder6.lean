/- A region that draws its order, what a step may turn told by a relation of one's own. No Go text. -/
import Derived.Test.YtedogbkkophghaaOrder2
namespace Go.Proofs.Ytedogbkkophghaa.AnyOrder
open Go Go.RowKit
set_option linter.unnecessarySimpa false
set_option linter.unusedSimpArgs false
set_option linter.unusedVariables false
section
variable {P : Program} {ops : Array Oper} {Q : Exit → Act → World → Prop} {J : World → Prop} {G : World → World → Prop} {a0 : Act} {ks : List Kind}
/-- what a step leaves -/
def PostG (ks : List Kind) (J : World → Prop) (G : World → World → Prop) (i : Nat) (o : Oper) (a : Act) (w : World) : Act → World → Prop :=
  fun a' w' => ∃ v, a' = a.put o.dst v ∧ J w' ∧ G w w' ∧ ∀ d, o.dst = some d → (kindAt ks i).holds v w'
theorem step_valueG {i : Nat} {o : Oper} {a : Act} {w w' : World} (ho : ops[i]? = some o) (hg : Region.wanted o (yielded ops a.tmps) = true) (v : Value)
    (hrun : (execOp a.eval o).run P w = .ok (.value v) w') (hJ : J w') (hG : G w w') (hv : (kindAt ks i).holds v w') :
    wpOp P ops Q i (PostG ks J G i o a w) a w := by
  refine wpOp_wanted ho hg ?_
  unfold Oper.wp
  rw [hrun, Oper.upon_value]
  exact ⟨v, rfl, hJ, hG, fun _ _ => hv⟩
theorem step_callG {i : Nat} {o : Oper} {a : Act} {w : World} (ho : ops[i]? = some o) (hg : Region.wanted o (yielded ops a.tmps) = true) (f : FuncId) (args : Array Value)
    (hrun : (execOp a.eval o).run P w = .ok (.enter f args) w) (hc : Calls P f args w fun e w' => ∃ v, e = .returned v ∧ J w' ∧ G w w' ∧ (kindAt ks i).holds v w') :
    wpOp P ops Q i (PostG ks J G i o a w) a w := by
  refine wpOp_wanted ho hg ?_
  unfold Oper.wp
  rw [hrun, Oper.upon_enter]
  refine hc.mono ?_
  rintro e w' ⟨v, rfl, hJ, hG, hv⟩
  exact ⟨v, rfl, hJ, hG, fun _ _ => hv⟩
/-- what is not wanted -/
theorem step_skipG {i : Nat} {o : Oper} {a : Act} {w : World} (ho : ops[i]? = some o) (hg : Region.wanted o (yielded ops a.tmps) = false) (hJ : J w) (hG : G w w) (hv : (kindAt ks i).holds undef w) :
    wpOp P ops Q i (PostG ks J G i o a w) a w := by
  unfold wpOp
  rw [ho]
  simp only [hg]
  exact ⟨undef, rfl, hJ, hG, fun _ _ => hv⟩
end
section
variable {P : Program} {ops : Array Oper} {Q : Exit → Act → World → Prop} {J : World → Prop} {a0 : Act} {ks : List Kind}
theorem kinds_monoG {G : World → World → Prop} (keep : ∀ p w w', (Kind.of p) ∈ ks → J w → G w w' → ∀ v, p v w → p v w') (i : Nat) (v : Value) (x y : World) (hv : (kindAt ks i).holds v x) (h : J x ∧ G x y) : (kindAt ks i).holds v y := by
  have hks : kindAt ks i = (ks[i]?).getD (.of fun _ _ => True) := rfl
  cases hi : ks[i]? with
  | none => rw [hks, hi]; exact trivial
  | some k =>
    rw [hks, hi] at hv ⊢
    cases k with
    | eq x => exact hv
    | of p => exact keep p x y (List.mem_of_getElem? hi) h.1 h.2 v hv
/-- THE LAW, by kinds, where only edges that bind count. -/
theorem region_kindsG {id : Nat} {w : World} (n : Nat) (ks : List Kind) (J : World → Prop) (G : World → World → Prop) (hm : P.follows .mixedOrders = true)
    (hf : fits2 ops n a0.tmps.size none = true) (hk : ks.length = n) (hd : (ops.toList.take n).all (fun o => o.dst.isSome) = true) (start : J w.drew)
    (keep : ∀ p w w', (Kind.of p) ∈ ks → J w → G w w' → ∀ v, p v w → p v w')
    (step : ∀ (i : Nat) (o : Oper) (listed : Nat → Bool) (a : Act) (w : World), i < n → ops[i]? = some o → StK ops ks J a0 listed a w → (∀ j, listed j = true → j < n) → (∀ e ∈ o.after, Region.binds .any e = true → listed e.on = true) →
      wpOp P ops Q i (PostG ks J G i o a w) a w)
    (fin : ∀ w, J w → finK w (fun a => wpList P ops Q (ops.toList.drop n) a w) ks (ops.toList.take n) a0) : (Code.region id ops true).wp P Q a0 w := by
  have hF := fits2_spec hf
  refine wp_region_any hm (wpAny_inv2 (n := n) (f := none) (V := fun i v w => (kindAt ks i).holds v w) (J := J) (G := fun x y => J x ∧ G x y) hF (fun i v x y hv h => kinds_monoG keep i v x y hv h) ?_ (fun a w st => fin_all hF hk hd fin a w st) (fun i a w h => by cases h) ops.size _ a0 _ (by simp) (by simp) ?_ (start_st start))
  · intro i o listed a w hin ho st hl hdep
    exact wpOp_mono (fun a' w' ⟨v, h1, h2, h3, h4⟩ => ⟨v, h1, h2, ⟨st.inv, h3⟩, h4⟩) (step i o listed a w hin ho st hl hdep)
  · intro i hi
    have : (Array.replicate ops.size false).getD i false = false := by
      by_cases hi : i < ops.size <;> simp [Array.getD_eq_getD_getElem?, hi]
    rw [this] at hi; cases hi
end
end Go.Proofs.Ytedogbkkophghaa.AnyOrder
