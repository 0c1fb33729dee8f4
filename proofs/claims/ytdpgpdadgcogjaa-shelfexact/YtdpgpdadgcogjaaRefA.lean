/- The contracts of the document's own Get, Without and Keep (hoistwayref06). -/
import Derived.Test.YtdpgpdadgcogjaaShD
namespace Go.Proofs.Ytdpgpdadgcogjaa
open Go.RowKit Go.Lib Plain
set_option linter.unusedVariables false

section
variable {w w' : World} {v : Value} {l : List KV}
/-- a pair of a row that is read -/
theorem Rd.pair {E : El KV} (hE : E.enc = fun x => [.string x.1, .int .i64 x.2]) (hs : E.s = 2) {O : Option Addr} {n cap j : Nat} (h : Rd E w (.slice O n cap) l) (hj : j < l.length) :
    ∃ b off, O = some ⟨b, off, none⟩ ∧ b < w.heap.size ∧ w.cell? ⟨b, off + j * 2, none⟩ = some (.string l[j].1) ∧ w.cell? ⟨b, off + j * 2 + 1, none⟩ = some (.int .i64 l[j].2) := by
  obtain ⟨O', c, hv, _, hr⟩ := h
  injection hv with e1 e2 e3
  subst e1
  obtain ⟨b, off, e, hb, k⟩ := hr j l[j] (List.getElem?_eq_getElem hj)
  have k0 := k 0 (.string l[j].1) (by rw [hE]; rfl)
  have k1 := k 1 (.int .i64 l[j].2) (by rw [hE]; rfl)
  rw [hs, Nat.add_zero] at k0
  rw [hs] at k1
  exact ⟨b, off, e, hb, k0, k1⟩
/-- rows of things that are made in a loop -/
structure GSt {α : Type} (E : El α) (w0 wx : World) (rv : Value) (qs : List α) : Prop where
  own : Own E wx w0.heap.size rv qs
  bel : Below w0.heap.size w0 wx
theorem GSt.push {α : Type} {E : El α} {w0 wx : World} {rv : Value} {qs : List α} (h : GSt E w0 wx rv qs) (x : α) (hn : qs.length ≤ 100000) (ty : TypeId) :
    ∃ rv' w', (Builtin.append_ #[E.ts, E.ts] ty #[rv, .slice (some ⟨wx.heap.size, 0, none⟩) 1 1]).run Try.prog (wx.alloc (.cells (E.enc x).toArray E.e)) = .ok rv' w' ∧ GSt E w0 w' rv' (qs ++ [x]) := by
  have hb : Below wx.heap.size wx (wx.alloc (.cells (E.enc x).toArray E.e)) := (Below.refl _ _).alloc (Nat.le_refl _) _
  have ho := h.own.below hb
  have hs := h.bel.size
  obtain ⟨rv', w', hr, o', c', l'⟩ := ho.push (x := x) (b := wx.heap.size) (off := 0) (cap := 1) (by simp; omega) (fun j u hu => by
    rw [(At.new wx E.e (E.enc x).toArray).cell]
    simpa using hu) (by omega) ty
  exact ⟨rv', w', hr, o', (h.bel.trans (hb.mono hs)).trans (c'.below' ho (by simp; omega))⟩
theorem GSt.below {α : Type} {E : El α} {w0 wx wy : World} {rv : Value} {qs : List α} (h : GSt E w0 wx rv qs) (hb : Below wx.heap.size wx wy) : GSt E w0 wy rv qs := ⟨h.own.below hb, h.bel.trans (hb.mono h.bel.size)⟩
theorem GSt.start {α : Type} (E : El α) (w : World) : GSt E w (w.alloc (.cells #[] E.e)) (.slice (some ⟨w.heap.size, 0, none⟩) 0 0) [] := ⟨Own.lit0 E w (Nat.le_refl _), (Below.refl _ _).alloc (Nat.le_refl _) _⟩
theorem str_ne {a b : ByteArray} (h : a ≠ b) : (a.toList == b.toList) = false := by
  rw [beq_eq_false_iff_ne]
  exact fun e => h (toList_inj e)
theorem split_at (l : List KV) (j : Nat) (hj : j < l.length) : l = l.take j ++ l[j] :: l.drop (j + 1) := by
  rw [List.getElem_cons_drop, List.take_append_drop]
theorem get_at {k : ByteArray} {j : Nat} (hj : j < l.length) (h : ∀ y ∈ l.take j, y.1 ≠ k) (hk : l[j].1 = k) : get k l = some l[j].2 := by
  have e := get_app (k := k) (C := l[j] :: l.drop (j + 1)) h
  rw [← split_at l j hj] at e
  rw [e]
  unfold Plain.get
  rw [if_pos hk]
theorem take_mem {α : Type} (l : List α) (j : Nat) (hj : j < l.length) (y : α) (hy : y ∈ l.take (j + 1)) : y ∈ l.take j ∨ y = l[j] := by
  rw [List.take_add_one, List.getElem?_eq_getElem hj] at hy
  rcases List.mem_append.1 hy with h | h
  · exact .inl h
  · exact .inr (by simpa using h)
set_option maxRecDepth 100000 in
set_option maxHeartbeats 1600000 in
theorem rget_any (k : ByteArray) (h : Rd eR w v l) (hn : l.length ≤ 70000) : Calls Try.prog 17 #[v, .string k] w fun e w' => e = .returned (.tuple #[.int .i64 ((get k l).getD 0), .bool (get k l).isSome]) ∧ w = w' := by
  obtain ⟨O, cap, rfl, _⟩ := id h
  have H := Lib.hid h; clear h
  obtain ⟨n, hnn⟩ : ∃ n, l.length = n := ⟨_, rfl⟩
  rw [hnn] at H hn ⊢
  have HNN := Lib.hid hnn; clear hnn
  obtain ⟨G, hG⟩ : ∃ G, get k l = G := ⟨_, rfl⟩
  rw [hG]
  have HGG := Lib.hid hG; clear hG
  go_enter Try.func17, Try.ntmps17
  go_wp2_with fail
  go_loopg [6] n (fun gh s6 wx => ∃ j : Nat, j ≤ n ∧ gh = n - j ∧ s6 = .int .i64 (j : Int) ∧ w = wx ∧ ∀ y ∈ l.take j, y.1 ≠ k)
  case atStart => exact ⟨0, Nat.zero_le _, rfl, rfl, rfl, by simp⟩
  case round =>
    obtain ⟨j, hj, hg, rfl, rfl, hall⟩ := hrel
    have HG := Lib.hid hg; have HALL := Lib.hid hall; clear hg hall
    by_cases hlt : j < n
    · have hjj : j < l.length := by rw [HNN.out]; exact hlt
      obtain ⟨b, off, rfl, _, c0, c1⟩ := H.out.pair rfl rfl hjj
      have b3 : (j : Int) < (n : Int) := by omega
      have b4 : (0 : Int) ≤ (j : Int) := by omega
      by_cases hk : l[j].1 = k
      · have hgk := get_at hjj HALL.out hk
        rw [hk] at c0
        have hgk2 := HGG.out.symm.trans hgk
        subst hgk2
        clear hk hgk HGG
        go_wp2_with fail
        go_ret2
        exact ⟨rfl, rfl⟩
      · have HK := Lib.hid hk
        have h2 := str_ne hk
        generalize hy : l[j] = y at *
        have HY := Lib.hid hy; clear hk hy
        go_wp2_with fail
        go_roundg (n - (j + 1))
        case measure => have := HG.out; omega
        case rel => exact ⟨j + 1, by omega, rfl, rfl, rfl, fun y hy => (take_mem l j hjj y hy).elim (HALL.out y) (fun e => by rw [e, HY.out]; exact HK.out)⟩
    · obtain rfl : j = n := by omega
      have hgn : get k l = none := get_none (by have := HALL.out; rwa [← HNN.out, List.take_length] at this)
      have hgk2 := HGG.out.symm.trans hgn
      subst hgk2
      clear hgn
      go_wp2_with fail
      go_ret2
      exact ⟨rfl, rfl⟩
theorem del_take {k : ByteArray} {j : Nat} (hj : j < l.length) : del k (l.take (j + 1)) = if l[j].1 = k then del k (l.take j) else del k (l.take j) ++ [l[j]] := by
  rw [List.take_add_one, List.getElem?_eq_getElem hj, del_app]
  split
  · next e => unfold del; simp [e]
  · next e => unfold del; simp [e]
set_option maxRecDepth 100000 in
set_option maxHeartbeats 1600000 in
theorem rwithout_any (k : ByteArray) (h : Rd eR w v l) (hn : l.length ≤ 70000) : Calls Try.prog 12 #[v, .string k] w fun e w' => ∃ sv, e = .returned sv ∧ GSt eR w w' sv (del k l) := by
  obtain ⟨O, cap, rfl, _⟩ := id h
  have H := Lib.hid h; clear h
  obtain ⟨n, hnn⟩ : ∃ n, l.length = n := ⟨_, rfl⟩
  rw [hnn] at H hn ⊢
  have HNN := Lib.hid hnn; clear hnn
  have G0 := Lib.hid (GSt.start eR w)
  go_enter Try.func12, Try.ntmps12
  go_wp2_with fail
  go_loopg [6, 5] n (fun gh s6 s5 wx => ∃ (j : Nat) (rv : Value), j ≤ n ∧ gh = n - j ∧ s6 = .int .i64 (j : Int) ∧ rv = s5 ∧ GSt eR w wx rv (del k (l.take j)))
  case atStart => exact ⟨0, _, Nat.zero_le _, rfl, rfl, rfl, G0.out⟩
  case round =>
    obtain ⟨j, rv, hj, hg, rfl, rfl, hst⟩ := hrel
    have HG := Lib.hid hg; have HST := Lib.hid hst; clear hg hst G0
    by_cases hlt : j < n
    · have hjj : j < l.length := by rw [HNN.out]; exact hlt
      obtain ⟨b, off, rfl, _, c0, c1⟩ := (H.out.below HST.out.bel).pair rfl rfl hjj
      have b3 : (j : Int) < (n : Int) := by omega
      have b4 : (0 : Int) ≤ (j : Int) := by omega
      have hdt := del_take (k := k) hjj
      have HDT := Lib.hid hdt; clear hdt
      by_cases hk : l[j].1 = k
      · rw [hk] at c0
        have HK := Lib.hid hk; clear hk
        go_wp2_with fail
        go_roundg (n - (j + 1))
        case measure => have := HG.out; omega
        case rel => exact ⟨j + 1, rv, by omega, rfl, rfl, rfl, by rw [HDT.out, if_pos HK.out]; exact HST.out⟩
      · have HK := Lib.hid hk
        have h2 := str_ne hk
        obtain ⟨rv', w', hr, hst'⟩ := HST.out.push l[j] (by
          have h1 : (del k (l.take j)).length ≤ (l.take j).length := List.length_filter_le ..
          rw [List.length_take] at h1
          omega) 28
        have hr2 : (Builtin.append_ #[28, 28] 28 #[rv, .slice (some ⟨wr.heap.size, 0, none⟩) 1 1]).run Try.prog (wr.alloc (.cells #[.string l[j].1, .int .i64 l[j].2] 68)) = .ok rv' w' := hr
        have hst2 : GSt eR w w' rv' (del k (l.take (j + 1))) := by rw [HDT.out, if_neg HK.out]; exact hst'
        have HR := Lib.hid hr2; have HST2 := Lib.hid hst2; clear hr hr2 hst' hst2 hk HDT HK
        generalize l[j] = y at *
        go_wp2_with (at_builtin; (refine Lib.wpList_append_run _ rfl (.tmp 21) (.tmp 26) 28 28 rfl _ _ rfl rfl rv' w' HR.out ?_))
        go_roundg (n - (j + 1))
        case measure => have := HG.out; omega
        case rel => exact ⟨j + 1, rv', by omega, rfl, rfl, rfl, HST2.out⟩
    · obtain rfl : j = n := by omega
      go_wp2_with fail
      go_ret
      have := HST.out
      rw [← HNN.out, List.take_length] at this
      exact ⟨rv, rfl, this⟩
theorem keep_take {q : Int → Bool} {j : Nat} (hj : j < l.length) : (l.take (j + 1)).filter (fun x => q x.2) = if q l[j].2 = true then (l.take j).filter (fun x => q x.2) ++ [l[j]] else (l.take j).filter (fun x => q x.2) := by
  rw [List.take_add_one, List.getElem?_eq_getElem hj, List.filter_append]
  simp only [Option.toList]
  split
  · next e => simp [List.filter, e]
  · next e => simp [List.filter, e]
set_option maxRecDepth 100000 in
set_option maxHeartbeats 1600000 in
theorem rkeep_any (by_ : Int) (h1 : 2 ≤ by_) (h2 : by_ ≤ 4) (h : Rd eR w v l) (hn : l.length ≤ 70000) : Calls Try.prog 15 #[v, .int .i64 by_] w fun e w' => ∃ sv, e = .returned sv ∧ GSt eR w w' sv (l.filter (fun x => oddB by_ x.2)) := by
  obtain ⟨O, cap, rfl, _⟩ := id h
  have H := Lib.hid h; clear h
  have b0 : ¬ by_ = 0 := by omega
  have bm : ¬ by_ = -1 := by omega
  clear h1 h2
  obtain ⟨n, hnn⟩ : ∃ n, l.length = n := ⟨_, rfl⟩
  rw [hnn] at H hn ⊢
  have HNN := Lib.hid hnn; clear hnn
  have G0 := Lib.hid (GSt.start eR w)
  go_enter Try.func15, Try.ntmps15
  go_wp2_with fail
  go_loopg [6, 5] n (fun gh s6 s5 wx => ∃ (j : Nat) (rv : Value), j ≤ n ∧ gh = n - j ∧ s6 = .int .i64 (j : Int) ∧ rv = s5 ∧ GSt eR w wx rv ((l.take j).filter (fun x => oddB by_ x.2)))
  case atStart => exact ⟨0, _, Nat.zero_le _, rfl, rfl, rfl, G0.out⟩
  case round =>
    obtain ⟨j, rv, hj, hg, rfl, rfl, hst⟩ := hrel
    have HG := Lib.hid hg; have HST := Lib.hid hst; clear hg hst G0
    by_cases hlt : j < n
    · have hjj : j < l.length := by rw [HNN.out]; exact hlt
      obtain ⟨b, off, rfl, _, c0, c1⟩ := (H.out.below HST.out.bel).pair rfl rfl hjj
      have b3 : (j : Int) < (n : Int) := by omega
      have b4 : (0 : Int) ≤ (j : Int) := by omega
      have hdt := keep_take (q := oddB by_) hjj
      have HDT := Lib.hid hdt; clear hdt
      by_cases hk : (l[j].2.tmod by_ == 0) = true
      · have HK := Lib.hid (show oddB by_ l[j].2 = true from hk)
        obtain ⟨rv', w', hr, hst'⟩ := HST.out.push l[j] (by
          have h1 : ((l.take j).filter (fun x => oddB by_ x.2)).length ≤ (l.take j).length := List.length_filter_le ..
          rw [List.length_take] at h1
          omega) 28
        have hr2 : (Builtin.append_ #[28, 28] 28 #[rv, .slice (some ⟨wr.heap.size, 0, none⟩) 1 1]).run Try.prog (wr.alloc (.cells #[.string l[j].1, .int .i64 l[j].2] 68)) = .ok rv' w' := hr
        have hst2 : GSt eR w w' rv' ((l.take (j + 1)).filter (fun x => oddB by_ x.2)) := by rw [HDT.out, if_pos HK.out]; exact hst'
        have HR := Lib.hid hr2; have HST2 := Lib.hid hst2; clear hr hr2 hst' hst2 HDT HK
        generalize l[j] = y at *
        go_wp2_with (at_builtin; (refine Lib.wpList_append_run _ rfl (.tmp 22) (.tmp 27) 28 28 rfl _ _ rfl rfl rv' w' HR.out ?_))
        go_roundg (n - (j + 1))
        case measure => have := HG.out; omega
        case rel => exact ⟨j + 1, rv', by omega, rfl, rfl, rfl, HST2.out⟩
      · have hk2 : (l[j].2.tmod by_ == 0) = false := by simpa using hk
        have HK := Lib.hid (show ¬ oddB by_ l[j].2 = true from hk); clear hk
        generalize hy : l[j] = y at *
        have HST2 := Lib.hid (show GSt eR w wr rv ((l.take (j + 1)).filter (fun x => oddB by_ x.2)) by rw [HDT.out, if_neg HK.out]; exact HST.out)
        clear HDT HK hy
        go_wp2_with fail
        go_roundg (n - (j + 1))
        case measure => have := HG.out; omega
        case rel => exact ⟨j + 1, rv, by omega, rfl, rfl, rfl, HST2.out⟩
    · obtain rfl : j = n := by omega
      go_wp2_with fail
      go_ret
      have := HST.out
      rw [← HNN.out, List.take_length] at this
      exact ⟨rv, rfl, this⟩
end
end Go.Proofs.Ytdpgpdadgcogjaa
