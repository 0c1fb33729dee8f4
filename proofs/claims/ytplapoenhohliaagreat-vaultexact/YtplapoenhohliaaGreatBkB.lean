import Derived.Test.YtplapoenhohliaaGreatBkA
namespace Go.Proofs.YtplapoenhohliaaGreat
open Go.RowKit Go.Lib
set_option linter.unusedVariables false
set_option linter.unusedSimpArgs false
namespace Sh
section
variable {α : Type} {E : El α} {w w' : World} {B : Nat} {v : Value} {xs : List α}
def OwO (E : El α) (w : World) (B : Nat) (v : Value) (xs : List α) : Prop :=
 (v = .slice none 0 0 ∧ xs = []) ∨ ∃ g off cap cur, v = .slice (some ⟨g, off, none⟩) xs.length cap ∧ B ≤ g ∧ At w g E.e cur ∧ xs.length ≤ cap ∧ cap ≤ maxLen ∧ off + cap * E.s ≤ cur.size ∧
  ∀ i x, xs[i]? = some x → ∀ j u, (E.enc x)[j]? = some u → cur[off + i * E.s + j]? = some u
theorem OwO.nil (E : El α) (w : World) (B : Nat) : OwO E w B (.slice none 0 0) [] := .inl ⟨rfl, rfl⟩
theorem OwO.form (h : OwO E w B v xs) : ∃ O cap, v = .slice O xs.length cap ∧ xs.length ≤ cap := by
 rcases h with ⟨rfl, rfl⟩ | ⟨g, off, cap, cur, rfl, _, _, hc, _⟩
 ·exact ⟨none, 0, rfl, Nat.le_refl _⟩
 ·exact ⟨_, cap, rfl, hc⟩
theorem OwO.rd (h : OwO E w B v xs) : Rd E w v xs := by
 rcases h with ⟨rfl, rfl⟩ | ⟨g, off, cap, cur, rfl, _, hg, hc, _, _, hx⟩
 ·exact ⟨none, 0, rfl, Nat.le_refl _, fun i x hx => by simp at hx⟩
 ·exact ⟨_, cap, rfl, hc, fun i x hi => ⟨g, off, rfl, hg.lt, fun j u hu => by rw [At.cell hg]; exact hx i x hi j u hu⟩⟩
theorem OwO.lt (h : OwO E w B v xs) {g : Nat} (hg : v.ownBlock = some g) : B ≤ g ∧ g < w.heap.size := by
 rcases h with ⟨rfl, rfl⟩ | ⟨g', off, cap, cur, rfl, hb, ha, _⟩
 ·simp [Value.ownBlock] at hg
 ·have : g' = g := by simpa [Value.ownBlock] using hg
  subst this
  exact ⟨hb, ha.lt⟩
theorem OwO.chg {S : Nat → Prop} (h : OwO E w B v xs) (hc : Chg w w' S) (hv : ∀ k, v.ownBlock = some k → ¬ S k) : OwO E w' B v xs := by
 rcases h with h | ⟨g, off, cap, cur, rfl, hb, ha, rest⟩
 ·exact .inl h
 ·exact .inr ⟨g, off, cap, cur, rfl, hb, At.chg ha hc (hv g rfl), rest⟩
theorem OwO.below (h : OwO E w B v xs) (hb : Below w.heap.size w w') : OwO E w' B v xs := h.chg (Chg.ofBelow hb (fun _ => False)) (fun _ _ h => h)
theorem OwO.mono {B' : Nat} (h : OwO E w B v xs) (hB : B' ≤ B) : OwO E w B' v xs := by
 rcases h with h | ⟨g, off, cap, cur, hv, hb, rest⟩
 ·exact .inl h
 ·exact .inr ⟨g, off, cap, cur, hv, Nat.le_trans hB hb, rest⟩
theorem OwO.ty (h : OwO E w B v xs) {g : Nat} {t : TypeId} {cs : Array Value} (ha : At w g t cs) (hne : E.e ≠ t) : v.ownBlock ≠ some g := by
 rcases h with ⟨rfl, _⟩ | ⟨g', off, cap, cur, rfl, hb, h2, _⟩
 ·simp [Value.ownBlock]
 ·intro he
  have : g' = g := by simpa [Value.ownBlock] using he
  subst this
  exact At.ne h2 ha hne rfl
theorem Own.owO (h : Own E w B v xs) : OwO E w B v xs := by
 rcases h.2 with ⟨rfl, h0⟩ | ⟨g, cap, cur, rfl, hb, hg, hn, hm, hs, ht⟩
 ·exact .inl ⟨rfl, List.length_eq_zero_iff.1 h0⟩
 ·refine .inr ⟨g, 0, cap, cur, rfl, hb, hg, hn, hm, by rw [hs]; omega, fun i x hx j u hu => ?_⟩
  have := World.ownsRow.cells h (g := g) rfl (i * E.s + j) u (flat_get E xs i j x u hx hu)
  rw [add_at, At.cell hg] at this
  rw [← this]; congr 1; omega
theorem run_append_room_off (w : World) (t ty e : TypeId) (i : TypeInfo) (ht : Tryz.prog.underlying t = some (.slice e)) (hi : Tryz.prog.info? e = some i)
  (g off sLen sCap : Nat) (cur : Array Value) (hg : w.heap[g]? = some (.cells cur e (0, 0)))
  (a : Addr) (m c : Nat) (news : List Value) (hl : news.length = m * i.size) (hnews : ∀ j u, news[j]? = some u → w.cell? (a.add j) = some u) (h1 : ∀ u ∈ news, u.oneCell' = true)
  (hroom : sLen + m ≤ sCap) (hfit : off + sLen * i.size + news.length ≤ cur.size) :
  (Builtin.append_ #[t, t] ty #[.slice (some ⟨g, off, none⟩) sLen sCap, .slice (some a) m c]).run Tryz.prog w =
   .ok (.slice (some ⟨g, off, none⟩) (sLen + m) sCap) (w.setRow g (cur.toList.take (off + sLen * i.size) ++ news ++ cur.toList.drop (off + sLen * i.size + news.length)).toArray) := by
 have hf := run_firstCells_some (P := Tryz.prog) w i.size m a m c news hl hnews
 have hst := run_storeCells_at Tryz.prog g (off + sLen * i.size) e news 0 cur w hg (by simpa using hfit) h1
 simp only [Nat.add_zero] at hst
 simp [Builtin.append_, run_underlying ht, sizeOf, typeInfo, hi, Builtin.lenOf, hroom, hf, add_at, hst]
theorem OwO.push {x : α} (h : OwO E w B v xs) (hB : B ≤ w.heap.size) {b off cap : Nat} (hc : ∀ j u, (E.enc x)[j]? = some u → w.cell? ⟨b, off + j, none⟩ = some u) (hn : xs.length ≤ 1000000) (ty : TypeId) :
  ∃ v' w', (Builtin.append_ #[E.ts, E.ts] ty #[v, .slice (some ⟨b, off, none⟩) 1 cap]).run Tryz.prog w = .ok v' w' ∧ OwO E w' B v' (xs ++ [x]) ∧ Chg w w' (fun k => v.ownBlock = some k) ∧ Lies w v v' := by
 obtain ⟨i, hi, hz, hs, hb⟩ := E.info
 have h24 := E.hb; have hpos := E.pos
 have hnews : ∀ j u, (E.enc x)[j]? = some u → w.cell? ((⟨b, off, none⟩ : Addr).add j) = some u := fun j u hu => by rw [add_at]; exact hc j u hu
 rcases h with ⟨rfl, rfl⟩ | ⟨g, o1, cp, cur, rfl, hbg, hg, hle, hm, hsz, hx⟩
 ·obtain ⟨v', w', hr, h2, h3, h4⟩ := Own.push (E := E) (x := x) (Own.nil E w B) hB hc (by simp) ty
  exact ⟨v', w', hr, h2.owO, h3, h4⟩
 ·by_cases hroom : xs.length + 1 ≤ cp
  ·have hmul : xs.length * E.s + E.s ≤ cp * E.s := by
    have := Nat.mul_le_mul_right E.s hroom
    rwa [Nat.add_mul, Nat.one_mul] at this
   have hfit : o1 + xs.length * i.size + (E.enc x).length ≤ cur.size := by rw [E.len, hs]; omega
   have hr := run_append_room_off w E.ts ty E.e i E.hts hi g o1 xs.length cp cur hg ⟨b, off, none⟩ 1 cap (E.enc x) (by rw [E.len, hs]; omega) hnews (E.one x) hroom hfit
   refine ⟨_, _, hr, .inr ⟨g, o1, cp, _, by rw [List.length_append]; rfl, hbg, setRow_heap w g cur _ E.e _ hg, by rw [List.length_append]; exact hroom, hm, ?_, ?_⟩, ⟨rfl, rfl, rfl, by simp, fun k _ hk => setRow_other w g k _ (fun e => hk (by simp [Value.ownBlock, e]))⟩, .inl rfl⟩
   ·simp only [List.size_toArray, List.length_append, List.length_take, List.length_drop, Array.length_toList]
    rw [E.len, hs]
    omega
   ·intro i' y hy j u hu
    have hj : j < E.s := by rw [← E.len y]; exact (List.getElem?_eq_some_iff.1 hu).1
    rw [hs]
    rw [List.getElem?_append] at hy
    have htl : (List.take (o1 + xs.length * E.s) cur.toList).length = o1 + xs.length * E.s := by
     simp only [List.length_take, Array.length_toList]; omega
    split at hy
    ·next hlt =>
     have hmul2 : i' * E.s + E.s ≤ xs.length * E.s := by
      have := Nat.mul_le_mul_right E.s (show i' + 1 ≤ xs.length by omega)
      rwa [Nat.add_mul, Nat.one_mul] at this
     have := hx i' y hy j u hu
     rw [List.getElem?_toArray, List.getElem?_append_left (by rw [List.length_append, htl]; omega), List.getElem?_append_left (by rw [htl]; omega), List.getElem?_take, if_pos (by omega)]
     simpa using this
    ·next hlt =>
     have hi0 : i' - xs.length = 0 := by
      have := (List.getElem?_eq_some_iff.1 hy).1
      simp at this; omega
     obtain rfl : i' = xs.length := by omega
     have : y = x := by simpa using hy.symm
     subst this
     rw [List.getElem?_toArray, List.getElem?_append_left (by rw [List.length_append, htl, E.len]; omega), List.getElem?_append_right (by rw [htl]; omega), htl, show o1 + xs.length * E.s + j - (o1 + xs.length * E.s) = j by omega]
     exact hu
  ·have hbytes : (xs.length + 1) * E.b ≤ 140737488355328 := by
    have : (xs.length + 1) * E.b ≤ 1000001 * 1000 := Nat.mul_le_mul (by omega) h24
    omega
   have holds : ∀ j u, (xs.flatMap E.enc)[j]? = some u → w.cell? ((⟨g, o1, none⟩ : Addr).add j) = some u := fun j y hy => by
    have hj : j < xs.length * E.s := by have := (List.getElem?_eq_some_iff.1 hy).1; rwa [flat_length] at this
    have hq : j / E.s < xs.length := Nat.div_lt_of_lt_mul (by rw [Nat.mul_comm]; exact hj)
    have hmm : j % E.s < E.s := Nat.mod_lt _ hpos
    have hd : j / E.s * E.s + j % E.s = j := by rw [Nat.mul_comm]; exact Nat.div_add_mod j E.s
    have hxx : xs[j / E.s]? = some xs[j / E.s] := List.getElem?_eq_getElem hq
    cases hh : (E.enc xs[j / E.s])[j % E.s]? with
    | none => rw [List.getElem?_eq_none_iff, E.len] at hh; omega
    | some y2 =>
     have h3 := flat_get E xs _ _ _ _ hxx hh
     rw [hd, hy] at h3
     have h3 := Option.some.inj h3
     subst h3
     have := hx _ _ hxx _ _ hh
     rw [add_at, At.cell hg, ← hd, ← Nat.add_assoc]
     exact this
   have hr := run_append_grow (P := Tryz.prog) w E.ts ty E.e i _ E.hts hi hz ⟨g, o1, none⟩ xs.length cp (xs.flatMap E.enc) (by rw [flat_length, hs]) holds ⟨b, off, none⟩ 1 cap (E.enc x) (by rw [E.len, hs]; omega) hnews (by omega) (by omega) (growslice_fits (by omega) (by rw [hb]; exact hbytes))
   have hge := grownCap_ge w (xs.length + 1) cp E.e
   have hcm : grownCap w (xs.length + 1) cp E.e ≤ maxLen := grownCap_le_maxLen w (xs.length + 1) cp E.e (by unfold maxLen; omega)
   refine ⟨_, _, hr, .inr ⟨w.heap.size, 0, _, _, by rw [List.length_append]; rfl, hB, heap_alloc_new w.drew _, by rw [List.length_append]; exact hge, hcm, ?_, ?_⟩, ⟨rfl, rfl, rfl, by simp, fun k hk _ => heap_alloc_old w.drew _ hk⟩, .inr ⟨_, rfl, Nat.le_refl _⟩⟩
   ·simp only [Array.size_append, List.size_toArray, size_zeroCells, E.zs, flat_length, E.len]
    have : (grownCap w (xs.length + 1) cp E.e - (xs.length + 1)) * E.s = grownCap w (xs.length + 1) cp E.e * E.s - (xs.length + 1) * E.s := Nat.sub_mul _ _ _
    have h5 : (xs.length + 1) * E.s ≤ grownCap w (xs.length + 1) cp E.e * E.s := Nat.mul_le_mul_right _ hge
    have h6 : (xs.length + 1) * E.s = xs.length * E.s + E.s := by rw [Nat.add_mul, Nat.one_mul]
    omega
   ·intro i' y hy j u hu
    have h7 := flat_get E (xs ++ [x]) i' j y u hy hu
    rw [List.flatMap_append, List.flatMap_singleton] at h7
    have hlt := (List.getElem?_eq_some_iff.1 h7).1
    rw [Nat.zero_add, Array.getElem?_append_left (by simpa using hlt)]
    simpa using h7
theorem OwO.drop (h : OwO E w B v xs) {m : Nat} (hm : m ≤ xs.length) : ∃ v1, (∀ W : World, (Instr.slice E.ts v (some (.int .i64 (m : Int))) none none).run Tryz.prog W = .ok v1 W) ∧ OwO E w B v1 (xs.drop m) ∧ v1.ownBlock = v.ownBlock := by
 have ht' : Tryz.prog.underlying E.ts = some (.slice (Tryz.prog.elem E.ts)) := by simp [Program.elem, E.hts]
 have he : Tryz.prog.elem E.ts = E.e := by simp [Program.elem, E.hts]
 obtain ⟨i, hi, hz, hs, hb⟩ := E.info
 rcases h with ⟨rfl, rfl⟩ | ⟨g, off, cap, cur, rfl, hbg, hg, hc, hml, hsz, hx⟩
 ·obtain rfl : m = 0 := by simpa using hm
  refine ⟨.slice none 0 0, fun W => ?_, .inl ⟨rfl, rfl⟩, rfl⟩
  rw [run_slice_l W E.ts _ _ _ ht' .i64 ((0 : Nat) : Int) (by omega) (by omega), he]
  simp [Result.andThen, sliced, sizeOf, typeInfo, hi, hs]
 ·by_cases hcm : cap = m
  ·subst hcm
   have hl : xs.length = cap := by omega
   refine ⟨.slice (some ⟨g, off, none⟩) (xs.length - cap) (cap - cap), fun W => ?_, .inr ⟨g, off, cap - cap, cur, by rw [List.length_drop], hbg, hg, by rw [List.length_drop]; omega, by omega, ?_, ?_⟩, rfl⟩
   ·rw [run_slice_l W E.ts _ _ _ ht' .i64 (cap : Int) (by omega) (by omega), he]
    simp [Result.andThen, sliced, sizeOf, typeInfo, hi, hs]
   ·have : (cap - cap) * E.s = 0 := by simp
    omega
   ·intro i' y hy
    rw [List.drop_eq_nil_of_le (by omega)] at hy
    simp at hy
  ·refine ⟨.slice (some ⟨g, off + m * E.s, none⟩) (xs.length - m) (cap - m), fun W => ?_, .inr ⟨g, off + m * E.s, cap - m, cur, by rw [List.length_drop], hbg, hg, by rw [List.length_drop]; omega, by omega, ?_, ?_⟩, rfl⟩
   ·rw [run_slice_l W E.ts _ _ _ ht' .i64 (m : Int) (by omega) (by omega), he]
    simp [Result.andThen, sliced, sizeOf, typeInfo, hi, hs, add_at, hcm]
   ·have h1 : (cap - m) * E.s = cap * E.s - m * E.s := Nat.sub_mul _ _ _
    have h2 : m * E.s ≤ cap * E.s := Nat.mul_le_mul_right _ (by omega)
    omega
   ·intro i' y hy j u hu
    rw [List.getElem?_drop] at hy
    have := hx (m + i') y hy j u hu
    rw [Nat.add_mul, ← Nat.add_assoc] at this
    exact this
end
def Off (w : World) (S : Nat → Prop) : Prop := ∀ k, S k → ∀ cs, ¬ At w k 137 cs ∧ ¬ At w k 119 cs
end Sh
theorem TAt.chg {w w' : World} {B : Nat} {S : Nat → Prop} (hc : Chg w w' S) (hS : Sh.Off w S) : ∀ {t : Sh.Plain.T} {v : Value}, Sh.TAt w B v t → Sh.TAt w' B v t
 | .nil, _, h => h
 | .node l p x r, v, h => by
  obtain ⟨g, vl, vr, rfl, hg, hp, hn, hx, hl, hr⟩ := h
  exact ⟨g, vl, vr, rfl, hg, hp, At.chg hn hc (fun e => (hS _ e _).1 hn), At.chg hx hc (fun e => (hS _ e _).2 hx), TAt.chg hc hS hl, TAt.chg hc hS hr⟩
theorem TAt.up {w : World} {B B' : Nat} (hB : B ≤ B') : ∀ {t : Sh.Plain.T} {v : Value}, Sh.TAt w B v t → Sh.TAt w B' v t
 | .nil, _, h => h
 | .node l p x r, v, h => by
  obtain ⟨g, vl, vr, rfl, hg, hp, hn, hx, hl, hr⟩ := h
  exact ⟨g, vl, vr, rfl, by omega, by omega, hn, hx, TAt.up hB hl, TAt.up hB hr⟩
theorem SAt.chg {w w' : World} {S : Nat → Prop} {v : Value} {l : List Sh.Plain.KV} {room : Nat} (h : Sh.SAt w v l room) (hc : Chg w w' S) (hS : Sh.Off w S) : Sh.SAt w' v l room := by
 obtain ⟨vt, t, rfl, h3, h4⟩ := h
 exact ⟨vt, t, rfl, TAt.up hc.size (TAt.chg hc hS h3), h4⟩
theorem BAt.chg {w w' : World} {S : Nat → Prop} {b : Bk} {o p : Option Addr} (h : BAt w b o p) (hc : Chg w w' S) (hS : Sh.Off w S) : BAt w' b o p := ⟨SAt.chg h.1 hc hS, SAt.chg h.2 hc hS⟩
theorem Off.one {w : World} {g : Nat} {t : TypeId} {cs : Array Value} (ha : At w g t cs) (h1 : t ≠ 137) (h2 : t ≠ 119) : Sh.Off w (fun k => k = g) := fun k hk ds => by
 subst hk
 exact ⟨fun h => At.ne ha h h1 rfl, fun h => At.ne ha h h2 rfl⟩
end Go.Proofs.YtplapoenhohliaaGreat
namespace Go.Proofs.YtplapoenhohliaaGreat
open Go.RowKit Go.Lib
open Sh.Plain (KV get put del Rise)
set_option linter.unusedVariables false
set_option linter.unusedSimpArgs false
def top : Int := 1073741824
def newA (c : Cfg) (x : K) (i o b : Int) : K × Int := if chkK c x = 0 then (if i < 1 ∨ o < 1 ∨ b < 0 ∨ top < max (max i o) b then (zk, 1) else ({ x with id := i, own := o, born := b, st := 1 }, 0)) else (zk, chkK c x)
theorem newA_no {c : Cfg} {x : K} {i o b : Int} (h : chkK c x ≠ 0) : newA c x i o b = (zk, chkK c x) := if_neg h
theorem newA_arg {c : Cfg} {x : K} {i o b : Int} (h : chkK c x = 0) (h2 : i < 1 ∨ o < 1 ∨ b < 0 ∨ top < max (max i o) b) : newA c x i o b = (zk, 1) := by unfold newA; rw [if_pos h, if_pos h2]
theorem newA_ok {c : Cfg} {x : K} {i o b : Int} (h : chkK c x = 0) (h2 : ¬ (i < 1 ∨ o < 1 ∨ b < 0 ∨ top < max (max i o) b)) : newA c x i o b = ({ x with id := i, own := o, born := b, st := 1 }, 0) := by unfold newA; rw [if_pos h, if_neg h2]
theorem run_max3 {ρ : Operand → Value} {w : World} {x y z : Tmp} {i o b M : Int} {d : Option Tmp} {t : TypeId} {pos : String} {af : Array Edge} {gd : Option (Nat × Bool)} (e1 : ρ (.tmp x) = .int .i64 i) (e2 : ρ (.tmp y) = .int .i64 o) (e3 : ρ (.tmp z) = .int .i64 b) (hM : max (max i o) b = M) :
  (execOp ρ { dst := d, op := Op.call { callee := Callee.builtin Builtin.max, args := #[.tmp x, .tmp y, .tmp z], argTypes := #[3, 3, 3] }, type := t, pos := pos, after := af, guard := gd }).run Tryz.prog w = .ok (.value (.int .i64 M)) w := by
 have e : (if b > (if o > i then o else i) then b else (if o > i then o else i)) = M := by
  subst hM; split <;> split <;> omega
 simp [execOp, e1, e2, e3, go_sem]
 exact e
theorem wpList_max3 {ops : Array Oper} {rest : List Oper} {o' : Oper} {a : Act} {w : World} {Q : Exit → Act → World → Prop} {i o b M : Int} (hM : max (max i o) b = M) (x y z : Tmp) (ho : o'.op = Op.call { callee := Callee.builtin Builtin.max, args := #[.tmp x, .tmp y, .tmp z], argTypes := #[3, 3, 3] }) (hgd : Region.wanted o' (yielded ops a.tmps) = true)
  (e1 : a.eval (.tmp x) = .int .i64 i) (e2 : a.eval (.tmp y) = .int .i64 o) (e3 : a.eval (.tmp z) = .int .i64 b) (k : wpList Tryz.prog ops Q rest (a.put o'.dst (.int .i64 M)) w) : wpList Tryz.prog ops Q (o' :: rest) a w := by
 obtain ⟨dd, op, t, pos, af, gd⟩ := o'
 subst ho
 exact wpList_run hgd _ (run_max3 e1 e2 e3 hM) k
set_option maxRecDepth 100000 in
set_option maxHeartbeats 2000000 in
theorem newA_bad (c : Cfg) (x : K) (i o b : Int) (w : World) (hc : chkK c x ≠ 0) : Calls Tryz.prog 32 #[c.V, x.V, .int .i64 i, .int .i64 o, .int .i64 b] w (Ans w (newA c x i o b)) := by
 have HT := Lib.hid (Thr.new w c x)
 have CK := Lib.hid (fun W => checkK_any c x W)
 rw [newA_no hc]
 generalize chkK c x = n at *
 have d1 : decide (n = 0) = false := by simpa using hc
 have n1 : (n != 0) = true := by simpa using hc
 have q1 : (n == 0) = false := by simpa using hc
 clear hc
 go_enter Tryz.func32, Tryz.ntmps32
 go_upto_region 1 with fail
 obtain ⟨W, hW⟩ : ∃ W, ((w.alloc (.cells c.cells 24)).alloc (.cells x.cells 46)).alloc (.cells Z8 46) = W := ⟨_, rfl⟩
 rw [hW] at HT ⊢; clear hW
 generalize w.heap.size + 1 + 1 = q at HT ⊢
 generalize w.heap.size + 1 = p at HT ⊢
 generalize w.heap.size = g at HT ⊢
 have HA := Lib.hid HT.out.two.at_; have HC := Lib.hid HT.out.cat
 go_wp2_with (first | ((with_reducible apply wpList_load_cat (h := HC.out)); exact rfl; exact rfl; exact rfl) | ((with_reducible apply wpList_load_kat (h := HA.out)); exact rfl; exact rfl; exact rfl))
 refine (CK.out _).mono ?_
 rintro e w1 ⟨rfl, hb⟩
 have H1 := Lib.hid (HT.out.step hb).two; clear hb HA HC HT CK
 obtain ⟨z, hz⟩ := H1.out.ans
 have HZ := Lib.hid hz; clear hz
 go_wp2_with ((with_reducible apply wpList_store_kat (c := zk) (hq := HZ.out)); exact rfl; exact rfl; exact rfl; exact rfl)
 exact bodyPost_ret (results_pair Tryz.results32 rfl rfl (H1.out.out zk).1) rfl (H1.out.fin rfl)
set_option maxRecDepth 100000 in
set_option maxHeartbeats 2000000 in
theorem newA_args (c : Cfg) (x : K) (i o b : Int) (w : World) (hc : chkK c x = 0) (h2 : i < 1 ∨ o < 1 ∨ b < 0 ∨ top < max (max i o) b) : Calls Tryz.prog 32 #[c.V, x.V, .int .i64 i, .int .i64 o, .int .i64 b] w (Ans w (newA c x i o b)) := by
 have HT := Lib.hid (Thr.new w c x)
 have CK := Lib.hid (fun W => checkK_any c x W)
 rw [newA_arg hc h2]
 rw [hc] at CK; clear hc
 obtain ⟨t1, t2, t3, t4, hd⟩ : ∃ (t1 t2 t3 t4 : Bool) (M : Int), max (max i o) b = M ∧ decide (i < 1) = t1 ∧ decide (o < 1) = t2 ∧ decide (b < 0) = t3 ∧ decide (top < M) = t4 ∧ (t1 || t2 || t3 || t4) = true := by
  refine ⟨_, _, _, _, _, rfl, rfl, rfl, rfl, rfl, ?_⟩
  simp only [Bool.or_eq_true, decide_eq_true_eq]
  rcases h2 with h | h | h | h
  ·exact .inl (.inl (.inl h))
  ·exact .inl (.inl (.inr h))
  ·exact .inl (.inr h)
  ·exact .inr h
 obtain ⟨M, hM, d1, d2, d3, d4, ht⟩ := hd; have HM := Lib.hid hM; clear hM; unfold top at d4
 clear h2
 go_enter Tryz.func32, Tryz.ntmps32
 go_upto_region 1 with fail
 obtain ⟨W, hW⟩ : ∃ W, ((w.alloc (.cells c.cells 24)).alloc (.cells x.cells 46)).alloc (.cells Z8 46) = W := ⟨_, rfl⟩
 rw [hW] at HT ⊢; clear hW
 generalize w.heap.size + 1 + 1 = q at HT ⊢
 generalize w.heap.size + 1 = p at HT ⊢
 generalize w.heap.size = g at HT ⊢
 have HA := Lib.hid HT.out.two.at_; have HC := Lib.hid HT.out.cat
 go_wp2_with (first | ((with_reducible apply wpList_load_cat (h := HC.out)); exact rfl; exact rfl; exact rfl) | ((with_reducible apply wpList_load_kat (h := HA.out)); exact rfl; exact rfl; exact rfl))
 refine (CK.out _).mono ?_
 rintro e w1 ⟨rfl, hb⟩
 have H1 := Lib.hid (HT.out.step hb).two; clear hb HA HC HT CK
 obtain ⟨z, hz⟩ := H1.out.ans
 have HZ := Lib.hid hz; clear hz
 have HTT := Lib.hid ht; clear ht
 cases t1
 ·cases t2
  ·cases t3
   ·cases t4
    ·exact absurd HTT.out (by decide)
    ·clear HTT
     go_wp2_with (first | ((with_reducible apply wpList_max3 HM.out); exact rfl; exact rfl; exact rfl; exact rfl; exact rfl) | ((with_reducible apply wpList_store_kat (c := zk) (hq := HZ.out)); exact rfl; exact rfl; exact rfl; exact rfl))
     exact bodyPost_ret (results_pair Tryz.results32 rfl rfl (H1.out.out zk).1) rfl (H1.out.fin rfl)
   ·clear HTT d4
    go_wp2_with ((with_reducible apply wpList_store_kat (c := zk) (hq := HZ.out)); exact rfl; exact rfl; exact rfl; exact rfl)
    exact bodyPost_ret (results_pair Tryz.results32 rfl rfl (H1.out.out zk).1) rfl (H1.out.fin rfl)
  ·clear HTT d3 d4
   go_wp2_with ((with_reducible apply wpList_store_kat (c := zk) (hq := HZ.out)); exact rfl; exact rfl; exact rfl; exact rfl)
   exact bodyPost_ret (results_pair Tryz.results32 rfl rfl (H1.out.out zk).1) rfl (H1.out.fin rfl)
 ·clear HTT d2 d3 d4
  go_wp2_with ((with_reducible apply wpList_store_kat (c := zk) (hq := HZ.out)); exact rfl; exact rfl; exact rfl; exact rfl)
  exact bodyPost_ret (results_pair Tryz.results32 rfl rfl (H1.out.out zk).1) rfl (H1.out.fin rfl)
end Go.Proofs.YtplapoenhohliaaGreat
