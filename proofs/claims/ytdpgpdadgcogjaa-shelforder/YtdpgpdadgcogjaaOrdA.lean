/- What ShelfOrder leans on: shelves of keys with their lengths; rows of texts. No Go text. -/
import Derived.Test.YtdpgpdadgcogjaaShelfParts
import Derived.StillTailTactics
import Derived.Deep.DeepCutAuto
namespace Go.Proofs.Ytdpgpdadgcogjaa
open Go.RowKit Go.Lib Plain
set_option linter.unusedVariables false

/-- a region that draws its order, all reads but its tail: at a world that is a letter -/
theorem region_tail {P : Program} {id : Nat} {Q : Exit → Act → World → Prop} {a : Act} {w : World} {l : List Oper} (n : Nat) (hm : P.follows .mixedOrders = true) (hB : Region.lexTailB .any l.toArray n = true)
    (h : ∀ w6, w6 = w.drew → wpStill P l.toArray w6 (fun a' => wpList P l.toArray Q (l.drop n) a' w6) (l.take n) a) : (Code.region id l.toArray true).wp P Q a w := wp_region_still_tail n hm hB (h _ rfl)

/-- a shelf of these keys, each with its length -/
structure Good (l : List KV) (S : List ByteArray) : Prop where
  rise : Rise l
  yes : ∀ j, j ∈ S → get j l = some (j.size : Int)
  no : ∀ j, j ∉ S → get j l = none
  len : l.length ≤ S.length
theorem good_nil : Good [] [] := ⟨Rise.nil, fun j h => by simp at h, fun j _ => rfl, Nat.le_refl _⟩
theorem Good.put {l : List KV} {S : List ByteArray} (h : Good l S) (k : ByteArray) : Good (put k (k.size : Int) l) (S ++ [k]) := by
  refine ⟨h.rise.put, fun j hj => ?_, fun j hj => ?_, ?_⟩
  · rw [get_put h.rise]
    by_cases e : j = k
    · rw [if_pos e, e]
    · rw [if_neg e]
      rcases List.mem_append.1 hj with hj | hj
      · exact h.yes j hj
      · exact absurd (by simpa using hj) e
  · rw [get_put h.rise, if_neg (fun e => hj (by rw [e]; simp))]
    exact h.no j (fun e => hj (List.mem_append_left _ e))
  · have := put_length (k := k) (v := (k.size : Int)) h.rise
    have hl := h.len
    rw [this, List.length_append, List.length_singleton]
    split <;> omega
theorem Good.ok {l : List KV} {S : List ByteArray} (h : Good l S) (hS : S.length < 40) (k : ByteArray) : wok 40 k l = true := by
  have := h.len
  have e : l.length ≠ 40 := by omega
  unfold wok
  simp [e]
theorem Good.step {l : List KV} {S : List ByteArray} (h : Good l S) (hS : S.length < 40) (k : ByteArray) : Good (wput 40 k (k.size : Int) l) (S ++ [k]) := by
  unfold wput
  rw [h.ok hS k]
  exact h.put k
theorem Good.eq {l m : List KV} {S T : List ByteArray} (h : Good l S) (k : Good m T) (he : ∀ j, j ∈ S ↔ j ∈ T) : l = m := by
  refine rise_ext h.rise k.rise (fun j => ?_)
  by_cases hj : j ∈ S
  · rw [h.yes j hj, k.yes j ((he j).1 hj)]
  · rw [h.no j hj, k.no j (fun e => hj ((he j).2 e))]
theorem Good.has {l : List KV} {S : List ByteArray} (h : Good l S) {x : KV} (hx : x ∈ l) : x.1 ∈ S := by
  have := get_of_mem h.rise (k := x.1) (v := x.2) hx
  by_cases hj : x.1 ∈ S
  · exact hj
  · rw [h.no _ hj] at this; cases this
/-- 'append' of none -/
theorem Own.join0 {α : Type} {E : El α} {w : World} {B : Nat} {v : Value} {xs : List α} (h : Own E w B v xs) (hB : B ≤ w.heap.size) (a : Addr) (cap : Nat) (hn : xs.length ≤ 1000000) (ty : TypeId) :
    ∃ v' w', (Builtin.append_ #[E.ts, E.ts] ty #[v, .slice (some a) 0 cap]).run Try.prog w = .ok v' w' ∧ Own E w' B v' xs ∧ Chg w w' (fun k => v.ownBlock = some k) := by
  obtain ⟨i, hi, hz, hsz, hb⟩ := E.info
  have h24 := E.hb
  obtain ⟨v', w', hr, h2, h3, _, h5⟩ := run_append_own_at (P := Try.prog) w B E.ts ty E.e i _ E.s E.b E.hts hi hz hsz hb E.zs E.pos v xs.length _ h a 0 cap [] (by simp) (fun j y hy => by simp at hy) (by simp) (by unfold maxLen; omega) (by
    have : (xs.length + 0) * E.b ≤ 1000000 * 1000 := Nat.mul_le_mul (by omega) h24
    omega) hB
  refine ⟨v', w', hr, ?_, Chg.grown h3⟩
  unfold Own
  rw [List.append_nil] at h2
  exact h2

theorem Var.put {w : World} {p : Nat} {o o' : Option Addr} {l l' : List KV} {room : Nat} (h : Var w p o l room) (hs : SAt w (.agg #[.pointer o', .int .i64 (l'.length : Int), .int .i64 (room : Int)]) l' room) :
    Var (((w.setCell ⟨p, 0, none⟩ (.pointer o')).setCell ⟨p, 1, none⟩ (.int .i64 (l'.length : Int))).setCell ⟨p, 2, none⟩ (.int .i64 (room : Int))) p o' l' room :=
  ⟨h.at_.store3, hs.store h.at_ (by decide) (by decide)⟩
theorem Var.far {w : World} {p q : Nat} {o o2 : Option Addr} {l l2 : List KV} {room room2 : Nat} {x y z : Value} (h : Var w p o l room) (hq : Var w q o2 l2 room2) (hne : p ≠ q) :
    Var (((w.setCell ⟨q, 0, none⟩ x).setCell ⟨q, 1, none⟩ y).setCell ⟨q, 2, none⟩ z) p o l room :=
  ⟨((h.at_.far hne _).far hne _).far hne _, h.sat.store hq.at_ (by decide) (by decide)⟩
theorem chg_store3 (w : World) (q : Nat) (x y z : Value) : Chg w (((w.setCell ⟨q, 0, none⟩ x).setCell ⟨q, 1, none⟩ y).setCell ⟨q, 2, none⟩ z) (fun k => k = q) :=
  (((Chg.refl w (fun k => k = q)).set (p := ⟨q, 0, none⟩) (fun _ => rfl) x).set (p := ⟨q, 1, none⟩) (fun _ => rfl) y).set (p := ⟨q, 2, none⟩) (fun _ => rfl) z
theorem Own.store {α : Type} {E : El α} {w : World} {B q : Nat} {v : Value} {xs : List α} {o : Option Addr} {l : List KV} {room : Nat} {x y z : Value} (h : Own E w B v xs) (hq : Var w q o l room) (hne : E.e ≠ 26) :
    Own E (((w.setCell ⟨q, 0, none⟩ x).setCell ⟨q, 1, none⟩ y).setCell ⟨q, 2, none⟩ z) B v xs :=
  h.chg (chg_store3 w q x y z) (fun k hk e => by subst e; exact own_ne h hq.at_ hne hk)
theorem Below.store {B q : Nat} {w w0 : World} {x y z : Value} (h : Below B w0 w) (hq : B ≤ q) : Below B w0 (((w.setCell ⟨q, 0, none⟩ x).setCell ⟨q, 1, none⟩ y).setCell ⟨q, 2, none⟩ z) :=
  ((h.setCell hq _).setCell hq _).setCell hq _
/-- 'append(append([]string{}, l[:a]...), l[a+1:]...)' -/
theorem cut_out {w : World} {B g n cap at_ : Nat} {xs : List ByteArray} (h : Own eS w B (.slice (some ⟨g, 0, none⟩) n cap) xs) (ha : at_ < xs.length) (hn : xs.length ≤ 1000) (hB : B ≤ w.heap.size) :
    ∃ O1 c1 O2 n2 c2 v1 w1 v2 w2, (∀ W : World, (Instr.slice 52 (.slice (some ⟨g, 0, none⟩) n cap) none (some (.int .i64 (at_ : Int))) none).run Try.prog W = .ok (.slice (some O1) at_ c1) W) ∧
      (∀ W : World, (Instr.slice 52 (.slice (some ⟨g, 0, none⟩) n cap) (some (.int .i64 ((at_ + 1 : Nat) : Int))) none none).run Try.prog W = .ok (.slice (some O2) n2 c2) W) ∧
      (Builtin.append_ #[52, 52] 52 #[.slice (some ⟨w.heap.size, 0, none⟩) 0 0, .slice (some O1) at_ c1]).run Try.prog (w.alloc (.cells #[] 9)) = .ok v1 w1 ∧
      (Builtin.append_ #[52, 52] 52 #[v1, .slice (some O2) n2 c2]).run Try.prog w1 = .ok v2 w2 ∧
      Own eS w2 B v2 (xs.take at_ ++ xs.drop (at_ + 1)) ∧ Below w.heap.size w w2 := by
  have hlen := h.rd.len
  obtain ⟨hl1, hl2⟩ := hlen
  have sp : ∀ W : World, (Instr.slice 52 (.slice (some ⟨g, 0, none⟩) n cap) none (some (.int .i64 (at_ : Int))) none).run Try.prog W = .ok (.slice (some ⟨g, 0, none⟩) at_ cap) W := by
    intro W
    have ht' : Try.prog.underlying 52 = some (.slice (Try.prog.elem 52)) := by simp [Program.elem, Try.underlying52]
    have he : Try.prog.elem 52 = 9 := by simp [Program.elem, Try.underlying52]
    rw [run_slice_h W 52 _ _ _ ht' .i64 at_ (by omega) (by omega), he, Try.sizeOf9]
    simp [Result.andThen, sliced, Addr.add]
  have sd : ∀ W : World, (Instr.slice 52 (.slice (some ⟨g, 0, none⟩) n cap) (some (.int .i64 ((at_ + 1 : Nat) : Int))) none none).run Try.prog W = .ok (.slice (some (if cap = at_ + 1 then ⟨g, 0, none⟩ else ⟨g, at_ + 1, none⟩)) (n - (at_ + 1)) (cap - (at_ + 1))) W := by
    intro W
    have ht' : Try.prog.underlying 52 = some (.slice (Try.prog.elem 52)) := by simp [Program.elem, Try.underlying52]
    have he : Try.prog.elem 52 = 9 := by simp [Program.elem, Try.underlying52]
    rw [run_slice_l W 52 _ _ _ ht' .i64 (at_ + 1 : Nat) (by omega) (by omega), he, Try.sizeOf9]
    by_cases hc : cap = at_ + 1
    · simp [Result.andThen, sliced, hc]
    · have hc2 : ¬ cap = ((at_ + 1 : Nat) : Int).toNat := by omega
      simp only [Result.andThen, sliced, if_neg hc, if_neg hc2]
      simp [Addr.add]
  have hcell : ∀ (W : World), Below w.heap.size w W → ∀ i x, xs[i]? = some x → W.cell? ⟨g, i, none⟩ = some (.string x) := by
    intro W hb i x hx
    obtain ⟨O, c, hv, _, hr⟩ := (h.below hb).rd
    injection hv with e1 e2 e3
    obtain ⟨b, off, e, _, k⟩ := hr i x hx
    rw [← e1] at e
    injection e with e
    injection e with f1 f2
    subst f1; subst f2
    have := k 0 (.string x) rfl
    have e : eS.s = 1 := rfl
    rw [e, Nat.mul_one, Nat.zero_add, Nat.add_zero] at this
    exact this
  have hb0 : Below w.heap.size w (w.alloc (.cells #[] 9)) := (Below.refl _ _).alloc (Nat.le_refl _) _
  obtain ⟨v1, w1, r1, o1, c1, l1⟩ := (Own.lit0 eS w (B := w.heap.size) (Nat.le_refl _)).join (u := .slice (some ⟨g, 0, none⟩) at_ cap) (us := xs.take at_) (by simp) (.inr ⟨g, 0, cap, by rw [List.length_take, Nat.min_eq_left (by omega)], fun i x hx j y hy => by
    rw [List.getElem?_take] at hx
    split at hx
    · have := hcell _ hb0 i x hx
      have es : eS.s = 1 := rfl
      have ee : eS.enc x = [.string x] := rfl
      rw [ee] at hy
      cases j with
      | zero => simp at hy; subst hy; rw [es, Nat.mul_one, Nat.add_zero]; first | exact this | (rw [Nat.zero_add]; exact this)
      | succ j => simp at hy
    · cases hx⟩) (by simp; omega) 52
  rw [List.nil_append] at o1
  have hb1 : Below w.heap.size w w1 := hb0.trans (c1.below' (Own.lit0 eS w (Nat.le_refl _)) (by simp))
  obtain ⟨v2, w2, r2, o2, c2, l2⟩ := o1.join (u := .slice (some (if cap = at_ + 1 then ⟨g, 0, none⟩ else ⟨g, at_ + 1, none⟩)) (n - (at_ + 1)) (cap - (at_ + 1))) (us := xs.drop (at_ + 1)) hb1.size (by
    refine .inr ⟨g, if cap = at_ + 1 then 0 else at_ + 1, cap - (at_ + 1), ?_, fun i x hx j y hy => ?_⟩
    · rw [List.length_drop, hl1]
      split <;> rfl
    · rw [List.getElem?_drop] at hx
      have hlt := (List.getElem?_eq_some_iff.1 hx).1
      rw [if_neg (by omega)]
      have := hcell _ hb1 _ x hx
      have es : eS.s = 1 := rfl
      have ee : eS.enc x = [.string x] := rfl
      rw [ee] at hy
      cases j with
      | zero => simp at hy; subst hy; rw [es, Nat.mul_one, Nat.add_zero]; first | exact this | (rw [Nat.zero_add]; exact this)
      | succ j => simp at hy) (by rw [List.length_take, List.length_drop]; omega) 52
  exact ⟨_, _, _, _, _, v1, w1, v2, w2, sp, sd, r1, r2, o2.mono hB, hb1.trans (c2.below' o1 hb1.size)⟩
/-- 'append([]string{}, keys...)' -/
theorem copy_keys {w : World} {A : Option Addr} {cap : Nat} {ks : List ByteArray} (h : StrsAt w w.heap.size A ks) (hnil : A = none → cap = 0) (hn : ks.length ≤ 1000) :
    ∃ v1 w1, (Builtin.append_ #[52, 52] 52 #[.slice (some ⟨w.heap.size, 0, none⟩) 0 0, .slice A ks.length cap]).run Try.prog (w.alloc (.cells #[] 9)) = .ok v1 w1 ∧ Own eS w1 w.heap.size v1 ks ∧ Below w.heap.size w w1 := by
  have hb0 : Below w.heap.size w (w.alloc (.cells #[] 9)) := (Below.refl _ _).alloc (Nat.le_refl _) _
  by_cases h0 : ks = []
  · subst h0
    cases A with
    | none =>
      obtain ⟨v1, w1, r1, o1, c1, l1⟩ := (Own.lit0 eS w (B := w.heap.size) (Nat.le_refl _)).join (u := .slice none 0 0) (us := []) (by simp) (.inl ⟨rfl, rfl⟩) (by simp) 52
      refine ⟨v1, w1, ?_, o1, hb0.trans (c1.below' (Own.lit0 eS w (Nat.le_refl _)) (by simp))⟩
      rw [hnil rfl]
      exact r1
    | some a =>
      obtain ⟨v1, w1, r1, o1, c1⟩ := (Own.lit0 eS w (B := w.heap.size) (Nat.le_refl _)).join0 (by simp) a cap (by simp) 52
      exact ⟨v1, w1, r1, o1, hb0.trans (c1.below' (Own.lit0 eS w (Nat.le_refl _)) (by simp))⟩
  obtain ⟨v1, w1, r1, o1, c1, l1⟩ := (Own.lit0 eS w (B := w.heap.size) (Nat.le_refl _)).join (u := .slice A ks.length cap) (us := ks) (by simp) (by
      have hpos : 0 < ks.length := List.length_pos_iff.2 h0
      obtain ⟨b, off, rfl, hlt, _⟩ := h 0 hpos
      refine .inr ⟨b, off, cap, rfl, fun i x hx j y hy => ?_⟩
      have hi := (List.getElem?_eq_some_iff.1 hx).1
      obtain ⟨b', off', e, _, hc⟩ := (h.keep hb0) i hi
      injection e with e
      injection e with e1 e2
      subst e1; subst e2
      have hd : ks.getD i ByteArray.empty = x := by simp [List.getD, hx]
      rw [hd] at hc
      have es : eS.s = 1 := rfl
      have ee : eS.enc x = [.string x] := rfl
      rw [ee] at hy
      cases j with
      | zero => simp at hy; subst hy; rw [es, Nat.mul_one, Nat.add_zero]; exact hc
      | succ j => simp at hy) (by simp; omega) 52
  rw [List.nil_append] at o1
  exact ⟨v1, w1, r1, o1, hb0.trans (c1.below' (Own.lit0 eS w (Nat.le_refl _)) (by simp))⟩
end Go.Proofs.Ytdpgpdadgcogjaa
