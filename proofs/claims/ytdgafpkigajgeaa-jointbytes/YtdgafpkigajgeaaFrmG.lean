/- Frames in a row: what Cut answers of them; and a row of texts that Cut made, as a row that is read. -/
import Derived.Test.YtdgafpkigajgeaaFrmD
import Derived.Test.YtdgafpkigajgeaaFrmE
namespace Go.Proofs.Ytdgafpkigajgeaa
open Go.RowKit Go.Lib Plain
namespace Plain
theorem rst_frms (L : List (List UInt8)) (m : List UInt8) (h : allOk L = true) (i : Nat) (hi : i ≤ L.length) : rst (frms L ++ m) i = frms (L.drop i) ++ m := by
  induction i with
  | zero => rfl
  | succ i ih =>
    have ih := ih (by omega)
    show (rst (frms L ++ m) i).drop (nUsed (rst (frms L ++ m) i)) = _
    rw [ih]
    have hd : L.drop i = L[i] :: L.drop (i + 1) := List.drop_eq_getElem_cons (by omega)
    have ho : okB L[i] = true := by unfold allOk at h; rw [List.all_eq_true] at h; exact h _ (List.getElem_mem _)
    have e : frms (L.drop i) ++ m = frm L[i] ++ (frms (L.drop (i + 1)) ++ m) := by rw [hd]; show (frm L[i] ++ frms (L.drop (i + 1))) ++ m = _; rw [List.append_assoc]
    rw [e, (frm_whole L[i] _ ho).2.2, List.drop_left]
theorem at_frms (L : List (List UInt8)) (m : List UInt8) (h : allOk L = true) (i : Nat) (hi : i < L.length) : nSt (rst (frms L ++ m) i) = 1 ∧ nBody (rst (frms L ++ m) i) = L[i] := by
  rw [rst_frms L m h i (by omega)]
  have hd : L.drop i = L[i] :: L.drop (i + 1) := List.drop_eq_getElem_cons hi
  have ho : okB L[i] = true := by unfold allOk at h; rw [List.all_eq_true] at h; exact h _ (List.getElem_mem _)
  have e : frms (L.drop i) ++ m = frm L[i] ++ (frms (L.drop (i + 1)) ++ m) := by rw [hd]; show (frm L[i] ++ frms (L.drop (i + 1))) ++ m = _; rw [List.append_assoc]
  rw [e]
  exact ⟨(frm_whole L[i] _ ho).1, (frm_whole L[i] _ ho).2.1⟩
theorem end_frms (L : List (List UInt8)) (m : List UInt8) (h : allOk L = true) : rst (frms L ++ m) L.length = m := by
  rw [rst_frms L m h _ (Nat.le_refl _)]; simp [frms]
theorem cuts_frms (L : List (List UInt8)) (m : List UInt8) (h : allOk L = true) (hm : nSt m ≠ 1) : CutsTo (frms L ++ m) L.length :=
  ⟨fun i hi => (at_frms L m h i hi).1, by rw [end_frms L m h]; exact hm⟩
theorem bods_frms (L : List (List UInt8)) (m : List UInt8) (h : allOk L = true) : bods (frms L ++ m) L.length = L := by
  apply List.ext_getElem
  · rw [bods_length]
  · intro i h1 h2
    have := (at_frms L m h i h2).2
    simpa [bods] using this
end Plain

/-- a row of texts that a call owns, as a row that is read -/
theorem OwnS.read {w : World} {B : Nat} {v : Value} {ts : List ByteArray} (h : OwnS w B v ts) : ∃ O cap, v = .slice O ts.length cap ∧ StrsAt w w.heap.size O ts := by
  by_cases hn : 0 < ts.length
  · obtain ⟨g, cap, rfl⟩ := h.form hn
    refine ⟨some ⟨g, 0, none⟩, cap, rfl, fun i hi => ⟨g, 0, rfl, (World.ownsRow.lt h g rfl).2, ?_⟩⟩
    rw [World.ownsRow.cellAt h _ (by omega)]; simp [hi]
  · have h0 : ts = [] := by
      cases ts with
      | nil => rfl
      | cons a r => simp at hn
    subst h0
    rcases h.2 with ⟨rfl, _⟩ | ⟨g, cap, _, rfl, _⟩
    · exact ⟨none, 0, rfl, fun i hi => absurd hi (by simp)⟩
    · exact ⟨some ⟨g, 0, none⟩, cap, rfl, fun i hi => absurd hi (by simp)⟩
theorem texts_lists (ss : List ByteArray) : (lists ss).map textOf = ss := by
  unfold lists; rw [List.map_map]
  conv => rhs; rw [← List.map_id ss]
  congr 1
theorem lists_length (ss : List ByteArray) : (lists ss).length = ss.length := by simp [lists]
theorem StrsAt.mono {w : World} {B B' : Nat} {A : Option Addr} {ss : List ByteArray} (h : StrsAt w B A ss) (hB : B ≤ B') : StrsAt w B' A ss := by
  intro i hi
  obtain ⟨b, off, e, hlt, hc⟩ := h i hi
  exact ⟨b, off, e, Nat.lt_of_lt_of_le hlt hB, hc⟩
theorem StrsAt.drewN {w : World} {B : Nat} {A : Option Addr} {ss : List ByteArray} (h : StrsAt w B A ss) (n : Nat) : StrsAt (w.drewN n) B A ss := h
end Go.Proofs.Ytdgafpkigajgeaa
