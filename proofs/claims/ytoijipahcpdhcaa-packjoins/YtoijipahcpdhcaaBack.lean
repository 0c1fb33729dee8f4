/- What was written is read as it was: numbers and texts of an act; rows of acts that the call owns. -/
import Derived.Test.YtoijipahcpdhcaaRefC
import Derived.Test.YtoijipahcpdhcaaPackWrites
namespace Go.Proofs.Ytoijipahcpdhcaa
open Go.RowKit Go.Lib Plain

/-! ### plain -/
theorem ok_one {wd n : Int} (h : okNums wd [n] = true) : wide wd = true ∧ 0 ≤ n ∧ n.toNat < 256 ^ wd.toNat := by
  unfold okNums at h
  simp only [List.all_cons, List.all_nil, Bool.and_true, Bool.and_eq_true, fit_iff] at h
  exact ⟨h.1, h.2.1, h.2.2⟩
theorem rd_num {wd n : Int} (R : List UInt8) (h : okNums wd [n] = true) (hn : n ≤ 9223372036854775807) :
    rdN wd (textOf (num wd n ++ R)) = true ∧ inV wd (textOf (num wd n ++ R)) = n ∧ inS wd (textOf (num wd n ++ R)) = textOf R := by
  obtain ⟨h1, h2, h3⟩ := ok_one h
  have e1 : (num wd n ++ R).take wd.toNat = num wd n := by rw [← num_length wd n]; exact List.take_left
  have e2 : (num wd n ++ R).drop wd.toNat = R := by rw [← num_length wd n]; exact List.drop_left
  have e3 : dec (num wd n) = n.toNat := dec_enc _ _ h3
  have hr : rdN wd (textOf (num wd n ++ R)) = true := by
    rw [rdN_iff, textOf_data, e1, e3, textOf_size, List.length_append, num_length]
    exact ⟨h1, by omega, by omega⟩
  unfold inV inS
  rw [if_pos hr, if_pos hr, textOf_data, e1, e2, e3]
  exact ⟨hr, by omega, rfl⟩
theorem rd_text {most : Int} (s : ByteArray) (R : List UInt8) (h : s.size ≤ 65535) (hm : (s.size : Int) ≤ most) :
    rdT most (textOf (num 2 s.size ++ s.data.toList ++ R)) = true ∧ tV most (textOf (num 2 s.size ++ s.data.toList ++ R)) = s ∧ tS most (textOf (num 2 s.size ++ s.data.toList ++ R)) = textOf R := by
  have hl : (num 2 (s.size : Int)).length = 2 := by rw [num_length]; rfl
  have e1 : (num 2 (s.size : Int) ++ s.data.toList ++ R).take 2 = num 2 s.size := by
    rw [List.append_assoc, ← hl]; exact List.take_left
  have e2 : (num 2 (s.size : Int) ++ s.data.toList ++ R).drop 2 = s.data.toList ++ R := by
    rw [List.append_assoc]
    conv => lhs; rw [← hl]
    exact List.drop_left
  have e3 : dec (num 2 (s.size : Int)) = s.size := by
    have : (s.size : Int).toNat < 256 ^ (2 : Int).toNat := by
      have : (256 : Nat) ^ (2 : Int).toNat = 65536 := rfl
      omega
    have := dec_enc _ _ this
    rw [num, this]; simp
  have hsl : s.data.toList.length = s.size := (Lib.size_eq s).symm
  have hr : rdT most (textOf (num 2 s.size ++ s.data.toList ++ R)) = true := by
    rw [rdT_iff, textOf_data, e1, e3, textOf_size, List.length_append, List.length_append, hl, hsl]
    exact ⟨by omega, hm, by omega⟩
  unfold tV tS
  rw [if_pos hr, if_pos hr, textOf_data, e1, e3, ← List.drop_drop, e2]
  refine ⟨hr, ?_, ?_⟩
  · rw [← hsl, List.take_left, textOf_of]
  · rw [← hsl, List.drop_left]
theorem inB_ok {wd : Int} {s : ByteArray} {bad : Bool} (h : rdN wd s = true) : inB wd s bad = bad := if_pos h
theorem tB_ok {m : Int} {s : ByteArray} {bad : Bool} (h : rdT m s = true) : tB m s bad = bad := if_pos h

/-! ### rows of acts -/
def actCells (acts : List Act) : List Value := acts.flatMap fun x => (xcells x).toList
theorem actCells_length (acts : List Act) : (actCells acts).length = acts.length * 5 := by
  induction acts with
  | nil => rfl
  | cons x l ih => simp only [actCells, List.flatMap_cons, List.length_append, List.length_cons, Nat.add_mul] at *; rw [ih]; simp [xcells]; omega
theorem actCells_get (acts : List Act) (i r : Nat) (hi : i < acts.length) (hr : r < 5) : (actCells acts)[i * 5 + r]? = (xcells (acts.getD i noAct))[r]? := by
  induction acts generalizing i with
  | nil => simp at hi
  | cons x l ih =>
    have hx : (xcells x).toList.length = 5 := rfl
    simp only [actCells, List.flatMap_cons]
    cases i with
    | zero => rw [List.getElem?_append_left (by omega)]; simp
    | succ i =>
      rw [List.getElem?_append_right (by omega), hx, show (i + 1) * 5 + r - 5 = i * 5 + r by omega]
      have := ih i (by simpa using hi)
      simp only [actCells] at this
      rw [this]; simp
theorem actCells_append (a b : List Act) : actCells (a ++ b) = actCells a ++ actCells b := by simp [actCells]
theorem actCells_one (acts : List Act) : ∀ u ∈ actCells acts, u.oneCell' = true := by
  intro u hu
  simp only [actCells, List.mem_flatMap] at hu
  obtain ⟨x, _, hu⟩ := hu
  simp [xcells] at hu
  rcases hu with rfl | rfl | rfl | rfl | rfl <;> rfl
/-- a row of acts that the call owns -/
def OwnActs (w : World) (B g cap : Nat) (acts : List Act) : Prop := w.ownsRow B 29 5 (.slice (some ⟨g, 0, none⟩) acts.length cap) acts.length (actCells acts)
theorem OwnActs.act {w : World} {B g cap : Nat} {acts : List Act} (h : OwnActs w B g cap acts) (i : Nat) (hi : i < acts.length) : ActAt w g (i * 5) (acts.getD i noAct) := by
  have e : ∀ r, r < 5 → w.cell? ⟨g, i * 5 + r, none⟩ = (xcells (acts.getD i noAct))[r]? := fun r hr => by
    rw [World.ownsRow.cellAt h _ (by omega), actCells_get _ _ _ hi hr]
  exact ⟨e 0 (by omega), e 1 (by omega), e 2 (by omega), e 3 (by omega), e 4 (by omega)⟩
/-- a source of acts: nil, or its cells lie at an address -/
def SrcActs (w : World) (A : Option Addr) (c : Nat) (acts : List Act) : Prop :=
  (A = none ∧ acts = [] ∧ c = 0) ∨ ∃ ad, A = some ad ∧ ∀ j u, (actCells acts)[j]? = some u → w.cell? (ad.add j) = some u
theorem SrcActs.keep {w w' : World} {A : Option Addr} {c : Nat} {acts : List Act} (h : SrcActs w A c acts) (hb : Below w.heap.size w w') : SrcActs w' A c acts := by
  rcases h with h | ⟨ad, e, h⟩
  · exact .inl h
  · refine .inr ⟨ad, e, fun j u hj => ?_⟩
    have := h j u hj
    rw [hb.cell (World.block_lt_of_cell? w _ this)]; exact this
theorem src_of {w : World} {B c : Nat} {A : Option Addr} {acts : List Act} (h : ActsAt w B A acts) (hn : A = none → c = 0) : SrcActs w A c acts := by
  cases A with
  | none =>
    refine .inl ⟨rfl, ?_, hn rfl⟩
    cases acts with
    | nil => rfl
    | cons x l => obtain ⟨_, _, e, _⟩ := h 0 (by simp); cases e
  | some ad =>
    refine .inr ⟨ad, rfl, fun j u hj => ?_⟩
    have hjl : j < acts.length * 5 := by rw [← actCells_length]; exact (List.getElem?_eq_some_iff.1 hj).1
    obtain ⟨b, off, e, _, ha⟩ := h (j / 5) (by omega)
    injection e with e
    subst e
    have hr : j % 5 < 5 := by omega
    have e2 := actCells_get acts (j / 5) (j % 5) (by omega) hr
    rw [show j / 5 * 5 + j % 5 = j by omega, hj] at e2
    have e3 : (⟨b, off, none⟩ : Addr).add j = ⟨b, off + j / 5 * 5 + j % 5, none⟩ := by
      unfold Addr.add
      by_cases h0 : j = 0
      · subst h0; simp
      · simp [h0]; omega
    rw [e3]
    generalize hx : acts.getD (j / 5) noAct = x at ha e2
    obtain h5 | h5 | h5 | h5 | h5 : j % 5 = 0 ∨ j % 5 = 1 ∨ j % 5 = 2 ∨ j % 5 = 3 ∨ j % 5 = 4 := by omega
    all_goals rw [h5] at e2 ⊢
    · rw [e2]; exact ha.c0
    · rw [e2]; exact ha.c1
    · rw [e2]; exact ha.c2
    · rw [e2]; exact ha.c3
    · rw [e2]; exact ha.c4
theorem open_nil {H : Type} {enc : TypeId × Value → H} {w : World} {base : Nat} {spare : Nat → Bool} {held : Bool} {fuel : Nat} {a : Option Addr} {len cap : Nat} {x : DataW H × List MemPlace}
    (h : DataW.trod enc Try.prog w base spare held fuel 22 [.slice a len cap] = some x) : a = none → cap = 0 := by
  intro e
  rcases Go.Deep.open_slice Try.underlying22 h with ⟨h0, _⟩ | ⟨ad, l, c, m, n, D, Pl, hcs, _⟩
  · simp at h0; exact h0.2.2
  · simp at hcs; rw [hcs.1] at e; cases e
theorem info29 : (Try.prog.info? 29).map (fun i => (i.zero, i.size, i.bytes)) = some (some (.agg #[.int .i64 0, .int .i64 0, .int .i64 0, .int .i64 0, .string ⟨#[]⟩]), 5, 48) := by kernel_rfl

/-- 'append(row, acts...)', the row the call's own -/
theorem run_append_acts (w : World) (ty : TypeId) {B g cap : Nat} {olds : List Act} (hown : OwnActs w B g cap olds) {A : Option Addr} {c : Nat} {acts : List Act} (hs : SrcActs w A c acts) (hn : olds.length + acts.length ≤ 1000000) (hB : B ≤ w.heap.size) :
    ∃ g' cap' w', (Builtin.append_ #[22, 22] ty #[.slice (some ⟨g, 0, none⟩) olds.length cap, .slice A acts.length c]).run Try.prog w = .ok (.slice (some ⟨g', 0, none⟩) (olds.length + acts.length) cap') w' ∧
      OwnActs w' B g' cap' (olds ++ acts) ∧ w.grownBy w' (some g) ∧ (g' = g ∨ g' = w.heap.size) := by
  obtain ⟨i0, hi0, hz0, hz1, hz2⟩ := info_parts info29
  rcases hs with ⟨rfl, rfl, rfl⟩ | ⟨ad, rfl, hc⟩
  · have hr := run_append_owned_none (P := Try.prog) (w := w) B 22 ty 29 i0 5 Try.underlying22 hi0 _ _ _ hown
    exact ⟨g, cap, w, hr, by simpa [OwnActs] using hown, World.grownBy.refl _ _, .inl rfl⟩
  · obtain ⟨v', w', hr, h2, h3, h4, h5⟩ := run_append_own_at (P := Try.prog) w B 22 ty 29 i0 _ 5 48 Try.underlying22 hi0 hz0 hz1 hz2 rfl (by omega) _ _ _ hown ad acts.length c (actCells acts) (actCells_length _) hc (actCells_one _) (by unfold maxLen; omega) (by omega) hB
    rcases h2.2 with ⟨rfl, _⟩ | ⟨g', cap', cur, rfl, hx⟩
    · have := (h4.1 rfl).1; cases this
    · refine ⟨g', cap', w', hr, ?_, h3, ?_⟩
      · unfold OwnActs
        rw [actCells_append, List.length_append]; exact h2
      · rcases h5 with h5 | h5
        · left; simpa [Value.ownBlock] using h5
        · right; simpa [Value.ownBlock] using h5
theorem wpList_append_acts (w : World) {ops : Array Oper} {rest : List Oper} {o : Oper} {a : Go.Act} {Q : Exit → Go.Act → World → Prop} (hgd : o.guard = none) (s x : Operand)
    (ho : o.op = .call { callee := .builtin .append, args := #[s, x], argTypes := #[22, 22] })
    (B g cap n : Nat) (olds : List Act) (hown : OwnActs w B g cap olds) (hsv : a.eval s = .slice (some ⟨g, 0, none⟩) n cap) (hnl : olds.length = n)
    (A : Option Addr) (m c : Nat) (acts : List Act) (hs : SrcActs w A c acts) (hxv : a.eval x = .slice A m c) (hml : acts.length = m)
    (hn : olds.length + acts.length ≤ 1000000) (hB : B ≤ w.heap.size) (N : Nat) (hN : n + m = N) (H : Nat) (hH : w.heap.size = H)
    (h : ∀ g' cap' w', OwnActs w' B g' cap' (olds ++ acts) → w.grownBy w' (some g) → (g' = g ∨ g' = H) → wpList Try.prog ops Q rest (a.put o.dst (.slice (some ⟨g', 0, none⟩) N cap')) w') : wpList Try.prog ops Q (o :: rest) a w := by
  subst hnl
  subst hml
  subst hN
  subst hH
  obtain ⟨g', cap', w', hr, h2, h3, h4⟩ := run_append_acts w o.type hown hs hn hB
  refine wpList_plain hgd fun K hK => ?_
  unfold Oper.wp execOp
  simp only [ho, resolve, invoke, builtin, Sem.run_bind, Sem.run_pure, Result.andThen_ok, List.map_toArray, List.map_cons, List.map_nil, hsv, hxv, hr]
  exact hK _ _ (h g' cap' w' h2 h3 h4)
theorem OwnActs.chg {w w' : World} {S : Nat → Prop} {B g cap : Nat} {acts : List Act} (h : OwnActs w B g cap acts) (hc : Chg w w' S) (hg : ¬ S g) : OwnActs w' B g cap acts :=
  own_chg h hc (fun k hk => by have e : g = k := (by simpa [Value.ownBlock] using hk); subst e; exact hg)
theorem OwnActs.alloc {w : World} {B g cap : Nat} {acts : List Act} (h : OwnActs w B g cap acts) (o : Obj) : OwnActs (w.alloc o) B g cap acts := World.ownsRow.alloc h o
theorem OwnActs.lt {w : World} {B g cap : Nat} {acts : List Act} (h : OwnActs w B g cap acts) : B ≤ g ∧ g < w.heap.size := World.ownsRow.lt h g rfl
/-- a row of numbers that the call owns -/
def OwnInts (w : World) (B g cap : Nat) (zs : List Int) : Prop := w.ownsRow B 3 1 (.slice (some ⟨g, 0, none⟩) zs.length cap) zs.length (zs.map (Value.int .i64))
theorem OwnInts.cell {w : World} {B g cap : Nat} {zs : List Int} (h : OwnInts w B g cap zs) (i : Nat) (hi : i < zs.length) : w.cell? ⟨g, i, none⟩ = some (.int .i64 (zs.getD i 0)) := by
  rw [World.ownsRow.cellAt h _ (by omega)]; simp [hi]
theorem OwnInts.alloc {w : World} {B g cap : Nat} {zs : List Int} (h : OwnInts w B g cap zs) (o : Obj) : OwnInts (w.alloc o) B g cap zs := World.ownsRow.alloc h o
theorem OwnInts.lt {w : World} {B g cap : Nat} {zs : List Int} (h : OwnInts w B g cap zs) : B ≤ g ∧ g < w.heap.size := World.ownsRow.lt h g rfl
theorem OwnInts.chg {w w' : World} {S : Nat → Prop} {B g cap : Nat} {zs : List Int} (h : OwnInts w B g cap zs) (hc : Chg w w' S) (hg : ¬ S g) : OwnInts w' B g cap zs :=
  own_chg h hc (fun k hk => by have e : g = k := (by simpa [Value.ownBlock] using hk); subst e; exact hg)
/-- where a block of another kind than an Out's lies, nothing turns that writes on the Out -/
theorem Out.off_at {w : World} {B p g : Nat} {v : Value} {bs : List UInt8} {t : TypeId} {cs : Array Value} (h : Out w B p v bs) (hg : At w g t cs) (h5 : (5 : TypeId) ≠ t) (h27 : (27 : TypeId) ≠ t) : ¬ outSet p v g := by
  rintro (rfl | e)
  · exact At.ne h.at_ hg h27 rfl
  · exact own_ne h.own hg h5 e
theorem Out.off_own {w : World} {B p g B' : Nat} {v u : Value} {bs : List UInt8} {e : TypeId} {size n : Nat} {xs : List Value} (h : Out w B p v bs) (hu : w.ownsRow B' e size u n xs) (hg : u.ownBlock = some g) (h5 : e ≠ 5) (h27 : e ≠ 27) : ¬ outSet p v g := by
  rintro (rfl | e)
  · exact own_ne hu h.at_ h27 hg
  · exact own_ne2 h.own hu (Ne.symm h5) e hg
/-- two rows that lie apart -/
def Sep (v u : Value) : Prop := ∀ g, v.ownBlock = some g → u.ownBlock ≠ some g
theorem Sep.symm {v u : Value} (h : Sep v u) : Sep u v := fun g hu hv => h g hv hu
theorem Sep.lies {w : World} {v v' u : Value} (h : Sep v u) (hl : Lies w v v') (hu : ∀ g, u.ownBlock = some g → g < w.heap.size) : Sep v' u := by
  intro g hg hu'
  exact h g (hl.old hg (hu g hu')) hu'
theorem Sep.nil (u : Value) : Sep (.slice none 0 0) u := fun g hg => by simp [Value.ownBlock] at hg
theorem Out.other {w w' : World} {B p p' : Nat} {v v' : Value} {bs bs' : List UInt8} (h : Out w B p v bs) (h' : Out w B p' v' bs') (hp : p ≠ p') (hs : Sep v v') (hc : Chg w w' (outSet p v)) : Out w' B p' v' bs' := by
  refine h'.chg hc ?_ ?_
  · rintro (e | e)
    · exact hp e.symm
    · exact own_ne h.own h'.at_ (by decide) e
  · rintro k hk (e | e)
    · subst e; exact own_ne h'.own h.at_ (by decide) hk
    · exact hs k e hk
end Go.Proofs.Ytoijipahcpdhcaa
