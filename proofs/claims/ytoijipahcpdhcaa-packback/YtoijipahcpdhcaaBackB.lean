/- Reading what lacks its last byte ends badly; plain, but for the functions that say what Num and Text read. -/
import Derived.Test.YtoijipahcpdhcaaReadC
namespace Go.Proofs.Ytoijipahcpdhcaa
open Go.RowKit Go.Lib Plain

/-- an In that should still have 'rest' to read, and lacks its last byte; or is bad already -/
def JB (rest : List UInt8) (s : ByteArray) (bad : Bool) : Prop := (bad = true ∧ s = ⟨#[]⟩) ∨ (bad = false ∧ rest ≠ [] ∧ s = textOf rest.dropLast)
theorem inS_no {wd : Int} {s : ByteArray} (h : rdN wd s = false) : inS wd s = ⟨#[]⟩ := if_neg (by rw [h]; decide)
theorem inB_no {wd : Int} {s : ByteArray} {bad : Bool} (h : rdN wd s = false) : inB wd s bad = true := if_neg (by rw [h]; decide)
theorem tS_no {m : Int} {s : ByteArray} (h : rdT m s = false) : tS m s = ⟨#[]⟩ := if_neg (by rw [h]; decide)
theorem tB_no {m : Int} {s : ByteArray} {bad : Bool} (h : rdT m s = false) : tB m s bad = true := if_neg (by rw [h]; decide)
theorem JB_num {wd n : Int} {R : List UInt8} {s : ByteArray} {bad : Bool} (hok : okNums wd [n] = true) (hn : n ≤ 9223372036854775807) (h : JB (num wd n ++ R) s bad) : JB R (inS wd s) (inB wd s bad) := by
  rcases h with ⟨rfl, rfl⟩ | ⟨rfl, h0, rfl⟩
  · rw [inS_no (rdN_empty wd), inB_no (rdN_empty wd)]; exact .inl ⟨rfl, rfl⟩
  · by_cases hR : R = []
    · subst hR
      have hno : rdN wd (textOf (num wd n ++ []).dropLast) = false := by
        rw [Bool.eq_false_iff]
        intro h9
        obtain ⟨hw, hl, _⟩ := (rdN_iff _ _).1 h9
        rw [textOf_size, List.append_nil, List.length_dropLast, num_length] at hl
        have := (wide_iff wd).1 hw
        omega
      rw [inS_no hno, inB_no hno]; exact .inl ⟨rfl, rfl⟩
    · rw [List.dropLast_append_of_ne_nil hR]
      obtain ⟨h1, _, h3⟩ := rd_num R.dropLast hok hn
      rw [h3, inB_ok h1]
      exact .inr ⟨rfl, hR, rfl⟩
theorem dec_num2 (n : Nat) (h : n ≤ 65535) : dec (num 2 (n : Int)) = n := by
  have : (n : Int).toNat < 256 ^ (2 : Int).toNat := by
    have : (256 : Nat) ^ (2 : Int).toNat = 65536 := rfl
    omega
  have := dec_enc _ _ this
  rw [num, this]; simp
theorem cut_text (L : List UInt8) (most : Int) (hL : L.length ≤ 65535) : rdT most (textOf (num 2 L.length ++ L).dropLast) = false := by
  rw [Bool.eq_false_iff]
  intro h9
  obtain ⟨h2, _, hl⟩ := (rdT_iff _ _).1 h9
  have hn : (num 2 (L.length : Int)).length = 2 := by rw [num_length]; rfl
  rw [textOf_size, List.length_dropLast, List.length_append, hn] at h2 hl
  have hne : L ≠ [] := by intro e; subst e; simp at h2
  rw [textOf_data, List.dropLast_append_of_ne_nil hne] at hl
  have e1 : (num 2 (L.length : Int) ++ L.dropLast).take 2 = num 2 L.length := by
    conv => lhs; rw [← hn]
    exact List.take_left
  rw [e1, dec_num2 _ hL] at hl
  omega
theorem JB_text {most : Int} (t : ByteArray) {R : List UInt8} {s : ByteArray} {bad : Bool} (hs : t.size ≤ 65535) (hm : (t.size : Int) ≤ most) (h : JB (num 2 t.size ++ t.data.toList ++ R) s bad) : JB R (tS most s) (tB most s bad) := by
  rcases h with ⟨rfl, rfl⟩ | ⟨rfl, h0, rfl⟩
  · rw [tS_no (rdT_empty most), tB_no (rdT_empty most)]; exact .inl ⟨rfl, rfl⟩
  · by_cases hR : R = []
    · subst hR
      rw [List.append_nil]
      have hno : rdT most (textOf (num 2 t.size ++ t.data.toList).dropLast) = false := by
        have := cut_text t.data.toList most (by rw [← Lib.size_eq]; exact hs)
        rw [← Lib.size_eq] at this; exact this
      rw [tS_no hno, tB_no hno]; exact .inl ⟨rfl, rfl⟩
    · rw [List.dropLast_append_of_ne_nil hR]
      obtain ⟨h1, _, h3⟩ := rd_text t R.dropLast hs hm
      rw [h3, tB_ok h1]
      exact .inr ⟨rfl, hR, rfl⟩

/-! ### what PackBack writes -/
def bytesB (x : Act) : List UInt8 := if x.kind = 1 then num x.wd x.n ++ num x.wd x.m else num 2 x.s.size ++ x.s.data.toList
theorem bytesB_1 {x : Act} (h : x.kind = 1) : bytesB x = num x.wd x.n ++ num x.wd x.m := if_pos h
theorem bytesB_2 {x : Act} (h : ¬ x.kind = 1) : bytesB x = num 2 x.s.size ++ x.s.data.toList := if_neg h
/-- an act that was written -/
structure Done (x : Act) : Prop where
  ok : x.Ok
  s : x.s.size ≤ 1024
  n : x.kind = 1 → okNums x.wd [x.n] = true ∧ okNums x.wd [x.m] = true
theorem drop_flatB (D : List Act) (k : Nat) (h : k < D.length) : (D.drop k).flatMap bytesB = bytesB (D.getD k noAct) ++ (D.drop (k + 1)).flatMap bytesB := by
  rw [List.drop_eq_getElem_cons h, List.flatMap_cons]; simp [h]
theorem flatB_snoc (D : List Act) (x : Act) : (D ++ [x]).flatMap bytesB = D.flatMap bytesB ++ bytesB x := by simp
theorem bytesB_length {x : Act} (h : Done x) : (bytesB x).length ≤ 1100 := by
  unfold bytesB
  split
  · rename_i hk
    rw [List.length_append, num_length, num_length]
    have := (wide_iff _).1 (ok_one (h.n hk).1).1
    omega
  · rw [List.length_append, num_length, ← Lib.size_eq]
    have := h.s
    have e : (2 : Int).toNat = 2 := rfl
    omega
/-- what stands behind the acts -/
def tailB (zs : List Int) : List UInt8 := if okL zs = true then num 2 zs.length ++ nums 1 zs else []
theorem listd_tail (zs : List Int) (bs : List UInt8) : listd zs bs = bs ++ tailB zs := by
  unfold listd tailB
  split
  · rw [List.append_assoc]
  · rw [List.append_nil]
theorem tail_len (zs : List Int) (h : zs.length ≤ 100) : (tailB zs).length ≤ 200 := by
  unfold tailB
  split
  · rw [List.length_append, num_length, nums_length]
    have e : (2 : Int).toNat = 2 := rfl
    have e1 : (1 : Int).toNat = 1 := rfl
    rw [e, e1]; omega
  · simp
theorem nums1_length (zs : List Int) : (nums 1 zs).length = zs.length := by
  rw [nums_length]; have : (1 : Int).toNat = 1 := rfl
  rw [this]; omega
theorem nums1_get (zs : List Int) (h : okL zs = true) (k : Nat) (hk : k < zs.length) : (((nums 1 zs).getD k 0).toNat : Int) = zs.getD k 0 := by
  induction zs generalizing k with
  | nil => simp at hk
  | cons z l ih =>
    unfold okL at h
    rw [List.all_cons, Bool.and_eq_true] at h
    have hz := (fit_iff _ _).1 h.1
    have e : nums 1 (z :: l) = UInt8.ofNat z.toNat :: nums 1 l := by
      have e1 : num 1 z = [UInt8.ofNat (z.toNat / 256 ^ 0)] := rfl
      simp only [nums, List.flatMap_cons, e1, Nat.pow_zero, Nat.div_one]; rfl
    rw [e]
    cases k with
    | zero =>
      have h256 : z.toNat < 256 := by have := hz.2; have e2 : (256 : Nat) ^ (1 : Int).toNat = 256 := rfl; omega
      simp only [List.getD_cons_zero]
      rw [UInt8.toNat_ofNat']
      have := hz.1
      omega
    | succ k =>
      simp only [List.getD_cons_succ]
      exact ih h.2 k (by simpa using hk)
/-- the list is read as it was -/
theorem rd_list {zs : List Int} (h : okL zs = true) (hn : zs.length ≤ 100) : rdT zs.length (textOf (tailB zs)) = true ∧ dec ((textOf (tailB zs)).data.toList.take 2) = zs.length ∧
    ((textOf (tailB zs)).data.toList.drop 2).take (dec ((textOf (tailB zs)).data.toList.take 2)) = nums 1 zs ∧ tS zs.length (textOf (tailB zs)) = ⟨#[]⟩ := by
  have et : tailB zs = num 2 zs.length ++ nums 1 zs := if_pos h
  have hl := nums1_length zs
  have hn2 : (num 2 (zs.length : Int)).length = 2 := by rw [num_length]; rfl
  have e1 : (num 2 (zs.length : Int) ++ nums 1 zs).take 2 = num 2 zs.length := by
    conv => lhs; rw [← hn2]
    exact List.take_left
  have e2 : (num 2 (zs.length : Int) ++ nums 1 zs).drop 2 = nums 1 zs := by
    conv => lhs; rw [← hn2]
    exact List.drop_left
  have e3 := dec_num2 zs.length (by omega)
  have hr : rdT zs.length (textOf (tailB zs)) = true := by
    rw [rdT_iff, textOf_data, et, e1, e3, textOf_size, List.length_append, hn2, hl]
    exact ⟨by omega, by omega, by omega⟩
  refine ⟨hr, ?_, ?_, ?_⟩
  · rw [textOf_data, et, e1, e3]
  · rw [textOf_data, et, e1, e2, e3, ← hl, List.take_of_length_le (Nat.le_refl _)]
  · unfold tS
    rw [if_pos hr, textOf_data, et, e1, e3, ← List.drop_drop, e2, ← hl, List.drop_length]; rfl
theorem JB_list {zs : List Int} {s : ByteArray} {bad : Bool} (h : okL zs = true) (hn : zs.length ≤ 100) (hj : JB (tailB zs) s bad) : rdT 100 s = false ∧ (bad = false ∨ s = ⟨#[]⟩) := by
  rcases hj with ⟨rfl, rfl⟩ | ⟨rfl, _, rfl⟩
  · exact ⟨rdT_empty _, .inr rfl⟩
  · refine ⟨?_, .inl rfl⟩
    have := cut_text (nums 1 zs) 100 (by rw [nums1_length]; omega)
    rw [nums1_length] at this
    unfold tailB
    rw [if_pos h]; exact this
end Go.Proofs.Ytoijipahcpdhcaa
