/- The contracts of behind, pairs and planted. -/
import Derived.Test.YtedogbkkophghaaTrG
namespace Go.Proofs.Ytedogbkkophghaa.Sh
open Go.RowKit Go.Lib Plain
set_option linter.unusedVariables false

section
variable {w W : World} {B : Nat} {v vl vr sv : Value} {t tl tr : T} {ps : List Nat}
/-- behind: these pairs, and those of the tree behind them -/
theorem behind_any : ∀ {t : T} {w : World} {v sv : Value} {ps : List Nat}, TAt w B v t → Own eP w B sv ps → B ≤ w.heap.size → ps.length + t.its.length ≤ 1000000 → Calls Try.prog 71 #[v, sv] w (BPost w B sv (ps ++ t.its.map (·.1)))
  | .nil, w, v, sv, ps, h, ho, _, _ => by
    have e : v = .pointer none := h
    subst e
    have := behind_nil ho
    simpa [T.its] using this
  | .node l p x r, w, v, sv, ps, h, ho, hB, hn => by
    obtain ⟨g, vl, vr, rfl, hg, hp, hno, hx, hl, hr⟩ := h
    simp only [T.its, List.length_append, List.length_cons] at hn
    have e : ps ++ (T.node l p x r).its.map (·.1) = (ps ++ l.its.map (·.1) ++ [p]) ++ r.its.map (·.1) := by simp [T.its]
    rw [e]
    refine behind_node hno hg ho hB (ps1 := ps ++ l.its.map (·.1)) (by simp; omega) (fun W hb ho' => ?_) (fun W sv2 hb ho2 => ?_)
    · exact behind_any (hl.keep hb (Nat.le_refl _)) ho' (Nat.le_trans hB hb.size) (by omega)
    · exact behind_any (hr.keep hb (Nat.le_refl _)) ho2 (Nat.le_trans hB hb.size) (by simp; omega)
/-- what pairs answers -/
def PPost (w : World) (ps : List Nat) (e : Ending) (w' : World) : Prop := ∃ sv, e = .returned sv ∧ Own eP w' w.heap.size sv ps ∧ Below w.heap.size w w'
set_option maxRecDepth 100000 in
set_option maxHeartbeats 1600000 in
theorem pairs_run {o : Option Addr} {n room : Int} {M : Array Value} {ps : List Nat} {N : Nat} (hn : n = (N : Int))
    (hmk : ∀ W : World, (Instr.makeSlice 104 (.int .i64 0) (.int .i64 (N : Int))).run Try.prog W = .ok (.slice (some ⟨W.heap.size, 0, none⟩) 0 N) (W.alloc (.cells M 91)))
    (cb : ∀ W, W = ((w.alloc (.cells #[.pointer o, .int .i64 (N : Int), .int .i64 room] 29)).drew.alloc (.cells M 91)) → Calls Try.prog 71 #[.pointer o, .slice (some ⟨w.heap.size + 1, 0, none⟩) 0 N] W fun e w' => ∃ sv, e = .returned sv ∧ Own eP w' w.heap.size sv ps ∧ Below w.heap.size w w' ∧ At w' w.heap.size 29 #[.pointer o, .int .i64 (N : Int), .int .i64 room]) :
    Calls Try.prog 44 #[.agg #[.pointer o, .int .i64 n, .int .i64 room]] w (PPost w ps) := by
  subst hn
  have CB := Lib.hid cb
  clear cb
  go_enter Try.func44, Try.ntmps44
  go_wp2_with fail
  go_region_held3 (fun w' => (w'.cell? ⟨w.heap.size, 0, none⟩ = some (.pointer o) ∧ w'.cell? ⟨w.heap.size, 1, none⟩ = some (.int .i64 (N : Int))))
    (first | go_keep | exact ⟨A1.cell 0, A1.cell 1⟩ | fail)
    (first
      | (go_at_call 71; (refine (CB.out _ rfl).mono ?_); rintro e w1 ⟨sv1, rfl, o1, b1, A1⟩)
      | fail)
  all_goals go_wp2_with fail
  all_goals go_ret
  all_goals exact ⟨sv1, rfl, o1, b1⟩
/-- pairs: all pairs -/
theorem pairs_any {room : Int} (h : TAt w w.heap.size v t) (hn : t.kvs.length ≤ 70000) : Calls Try.prog 44 #[.agg #[v, .int .i64 (t.kvs.length : Int), .int .i64 room]] w (PPost w (t.its.map (·.1))) := by
  obtain ⟨M, hmk, hown⟩ := made eP t.kvs.length (by omega)
  obtain ⟨o, rfl⟩ := h.ptr
  refine pairs_run rfl hmk (fun W hW => ?_)
  have hb1 : Below w.heap.size w (w.alloc (.cells #[.pointer o, .int .i64 (t.kvs.length : Int), .int .i64 room] 29)).drew := ((Below.refl _ _).alloc (Nat.le_refl _) _).drew
  have hb2 : Below w.heap.size w W := by subst hW; exact hb1.alloc (by simp) _
  have hs : W.heap.size = w.heap.size + 2 := by subst hW; simp
  have hbox : At W w.heap.size 29 #[.pointer o, .int .i64 (t.kvs.length : Int), .int .i64 room] := by
    subst hW; exact ((At.new w 29 _).drew).alloc _
  have hW' : W.heap.size = w.heap.size + 2 := hs
  have ho : Own eP W (w.heap.size + 1) (.slice (some ⟨w.heap.size + 1, 0, none⟩) 0 t.kvs.length) [] := by
    subst hW
    have := hown (w.alloc (.cells #[.pointer o, .int .i64 (t.kvs.length : Int), .int .i64 room] 29)).drew (w.heap.size + 1) (by simp)
    have e : (w.alloc (.cells #[.pointer o, .int .i64 (t.kvs.length : Int), .int .i64 room] 29)).drew.heap.size = w.heap.size + 1 := by simp
    rw [e] at this
    exact this
  have hl := t.kvs_length
  refine (behind_any (B := w.heap.size + 1) ((h.keep hb2 (Nat.le_refl _)).mono (by omega)) ho (by omega) (by simp; omega)).mono ?_
  rintro e w' ⟨sv, rfl, o1, c1, l1⟩
  rw [List.nil_append] at o1
  have hbb : Below (w.heap.size + 1) W w' := c1.below' ho (by omega)
  exact ⟨sv, rfl, o1.mono (by omega), hb2.trans (hbb.mono (by omega)), hbox.below hbb (by omega)⟩
end
end Go.Proofs.Ytedogbkkophghaa.Sh
