/- Rows of pairs by rising keys, and trees of them. No Go text. -/
import Derived.Test.YtedogbkkophghaaEnt
import Derived.Lib.Hide
import Derived.Laws.Strings
namespace Go.Proofs.Ytedogbkkophghaa.Sh
namespace Plain

abbrev KV := ByteArray × E
/-- whether a key is below another one -/
def lt (a b : ByteArray) : Bool := Op.bytesLess a.toList b.toList
theorem toList_inj {a b : ByteArray} (h : a.toList = b.toList) : a = b := by
  rw [Go.ByteArray.toList_eq, Go.ByteArray.toList_eq] at h
  cases a; cases b; simp at h; subst h; rfl
theorem less_irrefl : ∀ x : List UInt8, Op.bytesLess x x = false
  | [] => rfl
  | a :: x => by simp [Op.bytesLess, less_irrefl x]
theorem less_trans : ∀ {x y z : List UInt8}, Op.bytesLess x y = true → Op.bytesLess y z = true → Op.bytesLess x z = true
  | [], [], _, h, _ => by simp [Op.bytesLess] at h
  | _ :: _, [], _, h, _ => by simp [Op.bytesLess] at h
  | _, _ :: _, [], _, h => by simp [Op.bytesLess] at h
  | [], _ :: _, _ :: _, _, _ => rfl
  | a :: x, b :: y, c :: z, h, k => by
    simp only [Op.bytesLess, Bool.or_eq_true, decide_eq_true_eq, Bool.and_eq_true, beq_iff_eq] at h k ⊢
    rcases h with h | ⟨rfl, h⟩
    · rcases k with k | ⟨rfl, k⟩
      · exact .inl (UInt8.lt_trans h k)
      · exact .inl h
    · rcases k with k | ⟨rfl, k⟩
      · exact .inl k
      · exact .inr ⟨rfl, less_trans h k⟩
theorem less_conn : ∀ {x y : List UInt8}, Op.bytesLess x y = false → Op.bytesLess y x = false → x = y
  | [], [], _, _ => rfl
  | _ :: _, [], _, k => by simp [Op.bytesLess] at k
  | [], _ :: _, h, _ => by simp [Op.bytesLess] at h
  | a :: x, b :: y, h, k => by
    simp only [Op.bytesLess, Bool.or_eq_false_iff, decide_eq_false_iff_not, Bool.and_eq_false_iff, beq_eq_false_iff_ne] at h k
    have e : a = b := by
      have h1 : b ≤ a := UInt8.not_lt.1 h.1
      have h2 : a ≤ b := UInt8.not_lt.1 k.1
      exact UInt8.le_antisymm h2 h1
    subst e
    rw [less_conn (h.2.resolve_left (by simp)) (k.2.resolve_left (by simp))]
theorem lt_irrefl (a : ByteArray) : lt a a = false := less_irrefl _
theorem lt_trans {a b c : ByteArray} (h : lt a b = true) (k : lt b c = true) : lt a c = true := less_trans h k
theorem lt_conn {a b : ByteArray} (h : lt a b = false) (k : lt b a = false) : a = b := toList_inj (less_conn h k)
theorem lt_asymm {a b : ByteArray} (h : lt a b = true) : lt b a = false := by
  cases e : lt b a
  · rfl
  · have := lt_trans h e; rw [lt_irrefl] at this; cases this
theorem lt_ne {a b : ByteArray} (h : lt a b = true) : a ≠ b := by rintro rfl; rw [lt_irrefl] at h; cases h

/-- by rising keys -/
def Rise (l : List KV) : Prop := l.Pairwise (fun a b => lt a.1 b.1 = true)
def get (k : ByteArray) : List KV → Option E
  | [] => none
  | x :: l => if x.1 = k then some x.2 else get k l
def put (k : ByteArray) (v : E) : List KV → List KV
  | [] => [(k, v)]
  | x :: l => if lt x.1 k = true then x :: put k v l else if x.1 = k then (k, v) :: l else (k, v) :: x :: l
def del (k : ByteArray) (l : List KV) : List KV := l.filter (fun x => decide (x.1 ≠ k))

theorem Rise.parts {A : List KV} {x : KV} {C : List KV} (h : Rise (A ++ x :: C)) : Rise A ∧ Rise C ∧ (∀ y ∈ A, lt y.1 x.1 = true) ∧ (∀ y ∈ C, lt x.1 y.1 = true) := by
  unfold Rise at h
  rw [List.pairwise_append, List.pairwise_cons] at h
  exact ⟨h.1, h.2.1.2, fun y hy => h.2.2 y hy x (List.mem_cons_self ..), h.2.1.1⟩
theorem Rise.cons {x : KV} {C : List KV} (h : Rise (x :: C)) : Rise C ∧ (∀ y ∈ C, lt x.1 y.1 = true) := by
  unfold Rise at h
  rw [List.pairwise_cons] at h
  exact ⟨h.2, h.1⟩
theorem Rise.cons_mk {x : KV} {C : List KV} (h : Rise C) (k : ∀ y ∈ C, lt x.1 y.1 = true) : Rise (x :: C) := List.pairwise_cons.2 ⟨k, h⟩
theorem Rise.nil : Rise [] := List.Pairwise.nil
theorem Rise.filter {l : List KV} (h : Rise l) (p : KV → Bool) : Rise (l.filter p) := List.Pairwise.filter p h
theorem Rise.app {A C : List KV} (h : Rise (A ++ C)) : Rise A ∧ Rise C := by
  unfold Rise at h
  rw [List.pairwise_append] at h
  exact ⟨h.1, h.2.1⟩

theorem get_mem {k : ByteArray} {v : E} : ∀ {l : List KV}, get k l = some v → (k, v) ∈ l
  | [], h => by cases h
  | x :: l, h => by
    unfold get at h
    split at h
    · next e => injection h with h; subst e; subst h; exact List.mem_cons_self ..
    · exact List.mem_cons_of_mem _ (get_mem h)
theorem get_none {k : ByteArray} : ∀ {l : List KV}, (∀ y ∈ l, y.1 ≠ k) → get k l = none
  | [], _ => rfl
  | x :: l, h => by
    unfold get
    rw [if_neg (h x (List.mem_cons_self ..)), get_none (fun y hy => h y (List.mem_cons_of_mem _ hy))]
theorem get_none_iff {k : ByteArray} : ∀ {l : List KV}, get k l = none → ∀ y ∈ l, y.1 ≠ k
  | [], _ => by simp
  | x :: l, h => by
    unfold get at h
    split at h
    · cases h
    · next e => intro y hy; exact (List.mem_cons.1 hy).elim (fun e' => e' ▸ e) (fun hy => get_none_iff h y hy)
theorem get_app {k : ByteArray} : ∀ {A C : List KV}, (∀ y ∈ A, y.1 ≠ k) → get k (A ++ C) = get k C
  | [], _, _ => rfl
  | x :: A, C, h => by
    rw [List.cons_append]
    conv => lhs; unfold get
    rw [if_neg (h x (List.mem_cons_self ..)), get_app (fun y hy => h y (List.mem_cons_of_mem _ hy))]
theorem get_left {k : ByteArray} {x : KV} {C : List KV} (hk : lt k x.1 = true) (hC : ∀ y ∈ C, lt x.1 y.1 = true) : ∀ A : List KV, get k (A ++ x :: C) = get k A
  | [] => by
    rw [List.nil_append]
    exact get_none (fun y hy => by
      rcases List.mem_cons.1 hy with rfl | hy
      · exact (lt_ne hk).symm
      · exact (lt_ne (lt_trans hk (hC y hy))).symm)
  | y :: A => by
    rw [List.cons_append]
    conv => lhs; unfold get
    conv => rhs; unfold get
    rw [get_left hk hC A]
theorem get_right {k : ByteArray} {x : KV} {A C : List KV} (hk : lt x.1 k = true) (hA : ∀ y ∈ A, lt y.1 x.1 = true) : get k (A ++ x :: C) = get k C := by
  rw [get_app (fun y hy => lt_ne (lt_trans (hA y hy) hk))]
  conv => lhs; unfold get
  rw [if_neg (lt_ne hk)]
theorem get_mid {k : ByteArray} {x : KV} {A C : List KV} (hk : x.1 = k) (hA : ∀ y ∈ A, lt y.1 x.1 = true) : get k (A ++ x :: C) = some x.2 := by
  rw [get_app (fun y hy => by rw [← hk]; exact lt_ne (hA y hy))]
  conv => lhs; unfold get
  rw [if_pos hk]
theorem put_left {k : ByteArray} {v : E} {x : KV} {C : List KV} (hk : lt k x.1 = true) : ∀ A : List KV, put k v (A ++ x :: C) = put k v A ++ x :: C
  | [] => by
    rw [List.nil_append]
    conv => lhs; unfold put
    rw [if_neg (by rw [lt_asymm hk]; decide), if_neg (lt_ne hk).symm]
    rfl
  | y :: A => by
    rw [List.cons_append]
    conv => lhs; unfold put
    conv => rhs; unfold put
    rw [put_left hk A]
    split
    · rfl
    · split <;> rfl
theorem put_over {k : ByteArray} {v : E} {C : List KV} : ∀ {A : List KV}, (∀ y ∈ A, lt y.1 k = true) → put k v (A ++ C) = A ++ put k v C
  | [], _ => rfl
  | y :: A, h => by
    rw [List.cons_append]
    conv => lhs; unfold put
    rw [if_pos (h y (List.mem_cons_self ..)), put_over (fun y hy => h y (List.mem_cons_of_mem _ hy))]
    rfl
theorem put_right {k : ByteArray} {v : E} {x : KV} {A C : List KV} (hk : lt x.1 k = true) (hA : ∀ y ∈ A, lt y.1 x.1 = true) : put k v (A ++ x :: C) = A ++ x :: put k v C := by
  rw [put_over (fun y hy => lt_trans (hA y hy) hk)]
  conv => lhs; arg 2; unfold put
  rw [if_pos hk]
theorem put_mid {k : ByteArray} {v : E} {x : KV} {A C : List KV} (hk : x.1 = k) (hA : ∀ y ∈ A, lt y.1 x.1 = true) : put k v (A ++ x :: C) = A ++ (k, v) :: C := by
  rw [put_over (fun y hy => by rw [← hk]; exact hA y hy)]
  conv => lhs; arg 2; unfold put
  rw [if_neg (by rw [hk, lt_irrefl]; decide), if_pos hk]
theorem del_none {k : ByteArray} {l : List KV} (h : ∀ y ∈ l, y.1 ≠ k) : del k l = l := List.filter_eq_self.2 (fun y hy => decide_eq_true (h y hy))
theorem del_app (k : ByteArray) (A C : List KV) : del k (A ++ C) = del k A ++ del k C := List.filter_append ..
theorem del_left {k : ByteArray} {x : KV} {A C : List KV} (hk : lt k x.1 = true) (hC : ∀ y ∈ C, lt x.1 y.1 = true) : del k (A ++ x :: C) = del k A ++ x :: C := by
  rw [del_app, del_none (l := x :: C) (fun y hy => by
    rcases List.mem_cons.1 hy with rfl | hy
    · exact (lt_ne hk).symm
    · exact (lt_ne (lt_trans hk (hC y hy))).symm)]
theorem del_right {k : ByteArray} {x : KV} {A C : List KV} (hk : lt x.1 k = true) (hA : ∀ y ∈ A, lt y.1 x.1 = true) : del k (A ++ x :: C) = A ++ x :: del k C := by
  rw [del_app, del_none (l := A) (fun y hy => lt_ne (lt_trans (hA y hy) hk))]
  congr 1
  unfold del
  rw [List.filter_cons_of_pos (by simpa using lt_ne hk)]
theorem del_mid {k : ByteArray} {x : KV} {A C : List KV} (hk : x.1 = k) (hA : ∀ y ∈ A, lt y.1 x.1 = true) (hC : ∀ y ∈ C, lt x.1 y.1 = true) : del k (A ++ x :: C) = A ++ C := by
  rw [del_app, del_none (l := A) (fun y hy => by rw [← hk]; exact lt_ne (hA y hy))]
  congr 1
  unfold del
  rw [List.filter_cons_of_neg (by simpa using hk)]
  exact del_none (fun y hy => by rw [← hk]; exact (lt_ne (hC y hy)).symm)
theorem mem_put {k : ByteArray} {v : E} {y : KV} : ∀ {l : List KV}, y ∈ put k v l → y = (k, v) ∨ y ∈ l
  | [], h => by simp [put] at h; exact .inl h
  | x :: l, h => by
    unfold put at h
    split at h
    · rcases List.mem_cons.1 h with rfl | h
      · exact .inr (List.mem_cons_self ..)
      · rcases mem_put h with h | h
        · exact .inl h
        · exact .inr (List.mem_cons_of_mem _ h)
    · split at h
      · rcases List.mem_cons.1 h with h | h
        · exact .inl h
        · exact .inr (List.mem_cons_of_mem _ h)
      · rcases List.mem_cons.1 h with h | h
        · exact .inl h
        · exact .inr h
theorem Rise.put {k : ByteArray} {v : E} : ∀ {l : List KV}, Rise l → Rise (put k v l)
  | [], _ => by unfold Plain.put; exact List.pairwise_singleton ..
  | x :: l, h => by
    obtain ⟨h1, h2⟩ := h.cons
    unfold Plain.put
    split
    · next e =>
      refine Rise.cons_mk (Rise.put h1) (fun y hy => ?_)
      rcases mem_put hy with rfl | hy
      · exact e
      · exact h2 y hy
    · next e =>
      split
      · next e' => exact Rise.cons_mk h1 (fun y hy => by rw [← e']; exact h2 y hy)
      · next e' =>
        have hk : lt k x.1 = true := by
          cases hh : lt k x.1
          · exact absurd (lt_conn (by simpa using e) hh) e'
          · rfl
        refine Rise.cons_mk h (fun y hy => ?_)
        rcases List.mem_cons.1 hy with rfl | hy
        · exact hk
        · exact lt_trans hk (h2 y hy)
theorem Rise.del {k : ByteArray} {l : List KV} (h : Rise l) : Rise (del k l) := h.filter _
theorem get_put {k j : ByteArray} {v : E} : ∀ {l : List KV}, Rise l → get j (put k v l) = if j = k then some v else get j l
  | [], _ => by
    unfold put get get
    by_cases e : j = k
    · subst e; simp
    · rw [if_neg (Ne.symm e), if_neg e]
  | x :: l, h => by
    obtain ⟨h1, h2⟩ := h.cons
    unfold put
    split
    · next e =>
      conv => lhs; unfold get
      rw [get_put h1]
      conv => rhs; arg 3; unfold get
      by_cases e1 : x.1 = j
      · subst e1; rw [if_pos rfl, if_neg (lt_ne e), if_pos rfl]
      · rw [if_neg e1, if_neg e1]
    · split
      · next e' =>
        conv => lhs; unfold get
        conv => rhs; arg 3; unfold get
        by_cases e1 : j = k
        · subst e1; simp
        · rw [if_neg (Ne.symm e1), if_neg e1, if_neg (by rw [e']; exact Ne.symm e1)]
      · conv => lhs; unfold get
        by_cases e1 : j = k
        · subst e1; simp
        · rw [if_neg (Ne.symm e1), if_neg e1]
theorem get_del {k j : ByteArray} : ∀ {l : List KV}, get j (del k l) = if j = k then none else get j l
  | [] => by simp [del, get]
  | x :: l => by
    have ih := get_del (k := k) (j := j) (l := l)
    unfold del at ih ⊢
    by_cases e : x.1 = k
    · rw [List.filter_cons_of_neg (by simpa using e), ih]
      conv => rhs; arg 3; unfold get
      by_cases e1 : j = k
      · rw [if_pos e1, if_pos e1]
      · rw [if_neg e1, if_neg e1, if_neg (by rw [e]; exact Ne.symm e1)]
    · rw [List.filter_cons_of_pos (by simpa using e)]
      conv => lhs; unfold get
      conv => rhs; arg 3; unfold get
      rw [ih]
      by_cases e1 : x.1 = j
      · rw [if_pos e1, if_pos e1, if_neg (by rw [← e1]; exact e)]
      · rw [if_neg e1, if_neg e1]
theorem put_length {k : ByteArray} {v : E} : ∀ {l : List KV}, Rise l → (put k v l).length = if (get k l).isSome = true then l.length else l.length + 1
  | [], _ => rfl
  | x :: l, h => by
    obtain ⟨h1, h2⟩ := h.cons
    unfold put get
    split
    · next e =>
      rw [if_neg (lt_ne e), List.length_cons, put_length h1, List.length_cons]
      split <;> rfl
    · next e =>
      split
      · next e' => rfl
      · next e' =>
        have hk : lt k x.1 = true := by
          cases hh : lt k x.1
          · exact absurd (lt_conn (by simpa using e) hh) e'
          · rfl
        rw [get_none (fun y hy => (lt_ne (lt_trans hk (h2 y hy))).symm)]
        rfl
theorem del_length {k : ByteArray} : ∀ {l : List KV}, Rise l → (del k l).length = if (get k l).isSome = true then l.length - 1 else l.length
  | [], _ => rfl
  | x :: l, h => by
    obtain ⟨h1, h2⟩ := h.cons
    unfold get
    by_cases e : x.1 = k
    · rw [if_pos e]
      have : del k (x :: l) = l := del_mid (A := []) e (by simp) h2
      rw [this]; rfl
    · rw [if_neg e]
      have e2 : del k (x :: l) = x :: del k l := by unfold del; rw [List.filter_cons_of_pos (by simpa using e)]
      rw [e2, List.length_cons, del_length h1, List.length_cons]
      split
      · next hh =>
        cases l
        · simp [get] at hh
        · simp
      · rfl
/-- rows of the same values are the same -/
theorem rise_ext : ∀ {l m : List KV}, Rise l → Rise m → (∀ k, get k l = get k m) → l = m
  | [], [], _, _, _ => rfl
  | [], y :: m, _, _, h => by have := h y.1; simp [get] at this
  | x :: l, [], _, _, h => by have := h x.1; simp [get] at this
  | x :: l, y :: m, hl, hm, h => by
    obtain ⟨h1, h2⟩ := hl.cons
    obtain ⟨k1, k2⟩ := hm.cons
    have e : x.1 = y.1 := by
      refine lt_conn ?_ ?_
      · cases hh : lt x.1 y.1
        · rfl
        · have := h x.1
          rw [get_none (l := y :: m) (fun z hz => by
            rcases List.mem_cons.1 hz with rfl | hz
            · exact (lt_ne hh).symm
            · exact (lt_ne (lt_trans hh (k2 z hz))).symm)] at this
          simp [get] at this
      · cases hh : lt y.1 x.1
        · rfl
        · have := h y.1
          rw [get_none (l := x :: l) (fun z hz => by
            rcases List.mem_cons.1 hz with rfl | hz
            · exact (lt_ne hh).symm
            · exact (lt_ne (lt_trans hh (h2 z hz))).symm)] at this
          simp [get] at this
    have e2 : x.2 = y.2 := by
      have := h x.1
      simp only [get, if_true, if_pos e.symm] at this
      injection this
    have exy : x = y := Prod.ext e e2
    subst exy
    rw [rise_ext h1 k1 (fun k => by
      have := h k
      simp only [get] at this
      by_cases ek : x.1 = k
      · subst ek
        rw [get_none (fun z hz => (lt_ne (h2 z hz)).symm), get_none (fun z hz => (lt_ne (k2 z hz)).symm)]
      · rwa [if_neg ek, if_neg ek] at this)]
theorem get_of_mem {k : ByteArray} {v : E} {l : List KV} (h : Rise l) (hm : (k, v) ∈ l) : get k l = some v := by
  obtain ⟨A, C, rfl⟩ := List.append_of_mem hm
  exact get_mid rfl h.parts.2.2.1

/-- a tree: each node has its pair, and the block in which that lies -/
inductive T where
  | nil : T
  | node (l : T) (p : Nat) (x : KV) (r : T) : T
namespace T
/-- all, with their blocks -/
def its : T → List (Nat × KV)
  | nil => []
  | node l p x r => l.its ++ (p, x) :: r.its
def kvs (t : T) : List KV := t.its.map (·.2)
def high : T → Nat
  | nil => 0
  | node l _ _ r => 1 + max l.high r.high
theorem kvs_nil : kvs nil = [] := rfl
theorem kvs_node (l : T) (p : Nat) (x : KV) (r : T) : (node l p x r).kvs = l.kvs ++ x :: r.kvs := by simp [kvs, its]
theorem high_le : ∀ t : T, t.high ≤ t.kvs.length
  | nil => Nat.le_refl _
  | node l p x r => by
    have := high_le l; have := high_le r
    rw [kvs_node]
    simp [high]
    omega
theorem kvs_length (t : T) : t.kvs.length = t.its.length := List.length_map ..
end T
end Plain
end Go.Proofs.Ytedogbkkophghaa.Sh
