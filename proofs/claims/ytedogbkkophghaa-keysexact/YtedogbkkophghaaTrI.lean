/- The contract of planted. -/
import Derived.Test.YtedogbkkophghaaTrH
namespace Go.Proofs.Ytedogbkkophghaa.Sh
open Go.RowKit Go.Lib Plain
set_option linter.unusedVariables false

section
variable {w W : World} {B : Nat} {v vl vr : Value} {t tl tr : T}
/-- what a call answers that makes a tree, maybe none -/
def WPost (w : World) (l : List KV) (e : Ending) (w' : World) : Prop := ∃ v t, e = .returned v ∧ TAt w' w'.heap.size v t ∧ t.kvs = l ∧ Below w.heap.size w w'
theorem LPost.to {l : List KV} {e : Ending} {w' : World} (h : LPost w l e w') : WPost w l e w' := by
  obtain ⟨g, t, rfl, h⟩ := h
  exact ⟨_, t, rfl, h⟩
theorem WPost.at {l : List KV} (hb : Below w.heap.size w W) {e : Ending} {W' : World} (h : WPost W l e W') : ∃ v t, e = .returned v ∧ TAt W' W'.heap.size v t ∧ t.kvs = l ∧ Below w.heap.size w W' := by
  obtain ⟨g, t, rfl, h1, h2, h3⟩ := h
  exact ⟨g, t, rfl, h1, h2, hb.trans (h3.mono hb.size)⟩
end
section
variable {α : Type} {E : El α} {w w' : World} {B : Nat} {v : Value} {xs : List α}
/-- 'l[:m]' -/
theorem slice_take (E : El α) (O : Option Addr) (n cap m : Nat) (hm : m ≤ cap) : ∃ O1 c1, (∀ W : World, (Instr.slice E.ts (.slice O n cap) none (some (.int .i64 (m : Int))) none).run Try.prog W = .ok (.slice O1 m c1) W) ∧ ∀ (W : World) (xs : List α), Rd E W (.slice O n cap) xs → m ≤ xs.length → Rd E W (.slice O1 m c1) (xs.take m) := by
  have ht' : Try.prog.underlying E.ts = some (.slice (Try.prog.elem E.ts)) := by simp [Program.elem, E.hts]
  have he : Try.prog.elem E.ts = E.e := by simp [Program.elem, E.hts]
  obtain ⟨i, hi, hz, hs, hb⟩ := E.info
  refine ⟨O, cap, fun W => ?_, fun W xs h hx => ?_⟩
  · rw [run_slice_h W E.ts _ _ _ ht' .i64 m (by omega) (by omega), he]
    simp [Result.andThen, sliced, sizeOf, typeInfo, hi]
    cases O <;> simp [Addr.add]
  · obtain ⟨O', cap', hv, hc, h⟩ := h
    injection hv with e1 e2 e3
    subst e1; subst e3
    refine ⟨O, cap, by rw [List.length_take, Nat.min_eq_left hx], by rw [List.length_take]; omega, fun i x hxx => ?_⟩
    rw [List.getElem?_take] at hxx
    split at hxx
    · exact h i x hxx
    · cases hxx
set_option maxRecDepth 100000 in
/-- 'l[m:]' -/
theorem slice_drop (E : El α) (O : Option Addr) (n cap m : Nat) (hm : m ≤ n) : ∃ O1 c1, (∀ W : World, (Instr.slice E.ts (.slice O n cap) (some (.int .i64 (m : Int))) none none).run Try.prog W = .ok (.slice O1 (n - m) c1) W) ∧ ∀ (W : World) (xs : List α), Rd E W (.slice O n cap) xs → Rd E W (.slice O1 (n - m) c1) (xs.drop m) := by
  have ht' : Try.prog.underlying E.ts = some (.slice (Try.prog.elem E.ts)) := by simp [Program.elem, E.hts]
  have he : Try.prog.elem E.ts = E.e := by simp [Program.elem, E.hts]
  obtain ⟨i, hi, hz, hs, hb⟩ := E.info
  refine ⟨if cap = m then O else O.map (·.add (m * E.s)), cap - m, fun W => ?_, fun W xs h => ?_⟩
  · rw [run_slice_l W E.ts _ _ _ ht' .i64 m (by omega) (by omega), he]
    simp [Result.andThen, sliced, sizeOf, typeInfo, hi, hs]
  · obtain ⟨O', cap', hv, hc, h⟩ := h
    injection hv with e1 e2 e3
    subst e1; subst e3
    refine ⟨_, _, by rw [List.length_drop, e2], by rw [List.length_drop]; omega, fun i x hxx => ?_⟩
    rw [List.getElem?_drop] at hxx
    have hlt := (List.getElem?_eq_some_iff.1 hxx).1
    obtain ⟨b, off, rfl, hb, k⟩ := h _ x hxx
    rw [if_neg (by omega)]
    refine ⟨b, off + m * E.s, by simp [add_at], hb, fun j u hu => ?_⟩
    rw [← k j u hu, Nat.add_mul]
    congr 2
    omega
end
section
variable {w W : World} {B : Nat} {v vl vr sv : Value} {t tl tr : T} {ps : List Nat}
theorem Rd.cellP {O : Option Addr} {n cap i : Nat} (h : Rd eP w (.slice O n cap) ps) {p : Nat} (hp : ps[i]? = some p) : ∃ b off, O = some ⟨b, off, none⟩ ∧ b < w.heap.size ∧ w.cell? ⟨b, off + i, none⟩ = some (ptr p) := by
  obtain ⟨O', cap', hv, hc, h⟩ := h
  injection hv with e1 e2 e3
  subst e1
  obtain ⟨b, off, rfl, hb, k⟩ := h i p hp
  refine ⟨b, off, rfl, hb, ?_⟩
  have := k 0 (ptr p) rfl
  have e : eP.s = 1 := rfl
  rw [e, Nat.mul_one, Nat.add_zero] at this
  exact this
theorem Rd.len {α : Type} {E : El α} {O : Option Addr} {n cap : Nat} {xs : List α} (h : Rd E w (.slice O n cap) xs) : n = xs.length ∧ n ≤ cap := by
  obtain ⟨O', cap', hv, hc, h⟩ := h
  injection hv with e1 e2 e3
  omega
set_option maxRecDepth 100000 in
set_option maxHeartbeats 1600000 in
theorem planted_nil {O : Option Addr} {cap : Nat} (w : World) : Calls Try.prog 68 #[.slice O 0 cap] w (WPost w []) := by
  go_enter Try.func68, Try.ntmps68
  go_wp2
  go_ret
  exact ⟨_, .nil, rfl, rfl, rfl, Below.refl _ _⟩
set_option maxRecDepth 100000 in
set_option maxHeartbeats 1600000 in
theorem planted_node {b off cap n m c1 c2 p m1 n2 : Nat} (hm1 : m1 = m + 1) {O1 O2 : Option Addr} {x : KV} {K1 K2 : List KV} (hn : 0 < n) (hm : m = n / 2) (hn2 : n ≤ 1000000)
    (r1 : ∀ W : World, (Instr.slice 104 (.slice (some ⟨b, off, none⟩) n cap) none (some (.int .i64 (m : Int))) none).run Try.prog W = .ok (.slice O1 m c1) W)
    (r2 : ∀ W : World, (Instr.slice 104 (.slice (some ⟨b, off, none⟩) n cap) (some (.int .i64 (m1 : Int))) none none).run Try.prog W = .ok (.slice O2 n2 c2) W)
    (hcell : ∀ W, Below w.heap.size w W → W.cell? ⟨b, off + m, none⟩ = some (ptr p))
    (cl : ∀ W, Below w.heap.size w W → Calls Try.prog 68 #[.slice O1 m c1] W (WPost W K1))
    (cr : ∀ W, Below w.heap.size w W → Calls Try.prog 68 #[.slice O2 n2 c2] W (WPost W K2))
    (cj : ∀ W v1 v2 t1 t2, Below w.heap.size w W → TAt W W.heap.size v1 t1 → TAt W W.heap.size v2 t2 → t1.kvs = K1 → t2.kvs = K2 → Calls Try.prog 69 #[v1, ptr p, v2] W (LPost W (K1 ++ x :: K2))) :
    Calls Try.prog 68 #[.slice (some ⟨b, off, none⟩) n cap] w (WPost w (K1 ++ x :: K2)) := by
  have CL := Lib.hid cl; have CR := Lib.hid cr; have CJ := Lib.hid cj; have HS := Lib.hid hcell
  have B0 : Below w.heap.size w w := Below.refl _ _
  have HB0 := Lib.hid B0
  have HBD := Lib.hid B0.drew
  have c0 := hcell w B0
  have f0 : ((n : Int) == 0) = false := beq_eq_false_iff_ne.2 (by omega)
  have f1 : wrap64 ((n : Int) / 2) = (m : Int) := by rw [IntWalk.wrap64_in _ (by omega)]; omega
  have F1 := Lib.hid f1
  have f2 : IntKind.i64.wrap ((m : Int) + 1) = (m1 : Int) := by rw [IntWalk.i64_in _ (by omega)]; omega
  have f3 : (0 : Int) ≤ (m : Int) := by omega
  have f4 : (m : Int) < (n : Int) := by omega
  have f5 : m < n := by omega
  clear hn hm hm1 hn2 cl cr cj hcell f1
  generalize K1 ++ x :: K2 = KK at *
  go_enter Try.func68, Try.ntmps68
  go_wp2_with fail
  rw [F1.out]
  go_region_held3 (fun w' => (w'.cell? ⟨b, off + m, none⟩ = some (ptr p)))
    (first | exact HS.out _ HBD.out | exact HS.out _ (by assumption) | fail)
    (first
      | (go_at_call 68; (with_reducible refine (CL.out _ b2).mono ?_); rintro e w1 hp1; obtain ⟨v1, t1, rfl, T1, k1, d1⟩ := hp1; have b1 : Below w.heap.size w w1 := b2.trans (d1.mono b2.size); have T2 := T2.step d1)
      | (go_at_call 68; (with_reducible refine (CL.out _ HBD.out).mono ?_); rintro e w1 hp1; obtain ⟨v1, t1, rfl, T1, k1, d1⟩ := hp1; have b1 : Below w.heap.size w w1 := HBD.out.trans (d1.mono HBD.out.size))
      | (go_at_call 68; (with_reducible refine (CR.out _ b1).mono ?_); rintro e w2 hp2; obtain ⟨v2, t2, rfl, T2, k2, d2⟩ := hp2; have b2 : Below w.heap.size w w2 := b1.trans (d2.mono b1.size); have T1 := T1.step d2)
      | (go_at_call 68; (with_reducible refine (CR.out _ HBD.out).mono ?_); rintro e w2 hp2; obtain ⟨v2, t2, rfl, T2, k2, d2⟩ := hp2; have b2 : Below w.heap.size w w2 := HBD.out.trans (d2.mono HBD.out.size))
      | (go_at_call 69; (with_reducible refine (CJ.out _ _ _ _ _ b1 T1 T2 k1 k2).mono ?_); rintro e w3 hp3; obtain ⟨g3, t3, rfl, T3, k3, b3⟩ := hp3.at b1)
      | (go_at_call 69; (with_reducible refine (CJ.out _ _ _ _ _ b2 T1 T2 k1 k2).mono ?_); rintro e w3 hp3; obtain ⟨g3, t3, rfl, T3, k3, b3⟩ := hp3.at b2)
      | fail)
  all_goals go_wp2_with fail
  all_goals go_ret
  all_goals exact ⟨_, t3, rfl, T3, k3, b3⟩
/-- planted: the tree of these pairs -/
theorem planted_any : ∀ (n : Nat) {w : World} {v : Value} {xs : List (Nat × KV)}, xs.length = n → n ≤ 70000 → Rd eP w v (xs.map (·.1)) → (∀ y ∈ xs, PAt w y.1 y.2) → Calls Try.prog 68 #[v] w (WPost w (xs.map (·.2))) := by
  intro n
  induction n using Nat.strongRecOn with
  | _ n ih =>
    intro w v xs hl hn hr hp
    obtain ⟨O, cap, rfl, hc, hcells⟩ := id hr
    rw [List.length_map, hl] at hr hc ⊢
    by_cases h0 : n = 0
    · subst h0
      have : xs = [] := List.length_eq_zero_iff.1 hl
      subst this
      exact planted_nil w
    · have hm : n / 2 < n := by omega
      have hx : xs[n / 2]? = some xs[n / 2] := List.getElem?_eq_getElem (by omega)
      obtain ⟨p, x⟩ : Nat × KV := xs[n / 2]
      obtain ⟨b, off, rfl, hb, hcell⟩ := hr.cellP (i := n / 2) (p := xs[n / 2].1) (by rw [List.getElem?_map, hx]; rfl)
      obtain ⟨O1, c1, r1, s1⟩ := slice_take eP (some ⟨b, off, none⟩) n cap (n / 2) (by omega)
      obtain ⟨O2, c2, r2, s2⟩ := slice_drop eP (some ⟨b, off, none⟩) n cap (n / 2 + 1) (by omega)
      have hsplit : xs = xs.take (n / 2) ++ xs[n / 2] :: xs.drop (n / 2 + 1) := by
        rw [List.getElem_cons_drop, List.take_append_drop]
      have hk : xs.map (·.2) = (xs.take (n / 2)).map (·.2) ++ xs[n / 2].2 :: (xs.drop (n / 2 + 1)).map (·.2) := by
        conv => lhs; rw [hsplit]
        rw [List.map_append, List.map_cons]
      rw [hk]
      have hmem : ∀ y ∈ xs, ∀ W, Below w.heap.size w W → PAt W y.1 y.2 := fun y hy W hb => (hp y hy).keep hb (hp y hy).lt
      refine planted_node rfl (by omega) rfl (by omega) r1 r2 (fun W hb' => (hb'.cell (p := ⟨b, _, none⟩) hb).trans hcell) (fun W hb' => ?_) (fun W hb' => ?_) (fun W v1 v2 t1 t2 hb' h1 h2 k1 k2 => ?_)
      · have := s1 W _ (hr.below hb') (by rw [List.length_map]; omega)
        rw [← List.map_take] at this
        exact ih (n / 2) hm (by rw [List.length_take]; omega) (by omega) this (fun y hy => hmem y (List.mem_of_mem_take hy) W hb')
      · have := s2 W _ (hr.below hb')
        rw [← List.map_drop] at this
        exact ih (n - (n / 2 + 1)) (by omega) (by rw [List.length_drop]; omega) (by omega) this (fun y hy => hmem y (List.mem_of_mem_drop hy) W hb')
      · have g1 := t1.high_le; have g2 := t2.high_le
        have l1 : t1.kvs.length = n / 2 := by rw [k1, List.length_map, List.length_take]; omega
        have l2 : t2.kvs.length = n - (n / 2 + 1) := by rw [k2, List.length_map, List.length_drop]; omega
        refine (joined_any h1 (hmem xs[n / 2] (List.getElem_mem _) W hb') h2 (by omega) (by omega)).mono ?_
        rintro e w' ⟨g, rfl, T3, b3⟩
        exact ⟨g, _, rfl, T3, by rw [T.kvs_node, k1, k2], b3⟩
end
end Go.Proofs.Ytedogbkkophghaa.Sh
