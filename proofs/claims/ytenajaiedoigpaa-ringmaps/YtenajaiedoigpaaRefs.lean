/- The contracts of the document's own answers of layer 5: hoistwayref05.Push, Pop and Drop. -/
import Derived.Test.YtenajaiedoigpaaDropD
import Derived.Deep.DrawnRows
import Derived.Lib.SlBuf
namespace Go.Proofs.Ytenajaiedoigpaa
open Go.RowKit Go.Lib Plain
attribute [local go_sem ↓] Go.wp_at_zero Go.wp_at_succ

/-- an append whose run is known, as one step of a region that draws -/
theorem step_append_run {P : Program} {ops : Array Oper} {o : Oper} {a : Go.Act} {w : World} {K : Go.Act → World → Prop} {Q : Exit → Go.Act → World → Prop} {E : Prop} (hgd : o.guard = none) (s x : Operand) (t tn : TypeId)
    (ho : o.op = .call { callee := .builtin .append, args := #[s, x], argTypes := #[t, tn] }) (vs vx : Value) (hs : a.eval s = vs) (hx : a.eval x = vx) (v' : Value) (w' : World) (hr : (Builtin.append_ #[t, tn] o.type #[vs, vx]).run P w = .ok v' w')
    (h : K (a.put o.dst v') w') : if Region.wanted o (yielded ops a.tmps) = true then Oper.wp P o a w K Q else E := by
  have hw : Region.wanted o (yielded ops a.tmps) = true := by simp [Region.wanted, hgd]
  rw [if_pos hw]
  unfold Oper.wp execOp
  simp only [ho, resolve, invoke, builtin, Sem.run_bind, Sem.run_pure, Result.andThen_ok, List.map_toArray, List.map_cons, List.map_nil, hs, hx, hr]
  exact h
theorem OwnI.cap {w : World} {B g n cap : Nat} {zs : List Int} (h : OwnI w B (.slice (some ⟨g, 0, none⟩) n cap) zs) : n ≤ cap := by
  rcases h.2 with ⟨h0, _⟩ | ⟨g', cap', cur, hv, _, _, hn, _⟩
  · cases h0
  · injection hv with _ h1 h2
    omega
theorem OwnI.len {w : World} {B : Nat} {O : Option Addr} {n cap : Nat} {zs : List Int} (h : OwnI w B (.slice O n cap) zs) : n = zs.length := by
  rcases h.2 with ⟨h0, h1⟩ | ⟨g', cap', cur, hv, _⟩
  · injection h0 with _ h2; omega
  · injection hv
theorem OwnI.cons {w : World} {B : Nat} {v : Value} {x : Int} {zs : List Int} (h : OwnI w B v (x :: zs)) : ∃ g cap, v = .slice (some ⟨g, 0, none⟩) (zs.length + 1) cap ∧ zs.length + 1 ≤ cap ∧ g < w.heap.size ∧ w.cell? ⟨g, 0, none⟩ = some (.int .i64 x) := by
  rcases h.form with rfl | ⟨g, cap, rfl⟩
  · have := h.len; simp at this
  · refine ⟨g, cap, rfl, h.cap, (h.lt rfl).2, ?_⟩
    have := World.ownsRow.cells h (g := g) rfl 0 (.int .i64 x) rfl
    rw [add_at] at this
    exact this
section
variable {w : World} {B : Nat} {v : Value} {zs : List Int}
set_option maxHeartbeats 400000 in
theorem rpush_no (x : Int) (room : Nat) (h : OwnI w B v zs) (hr : room ≤ zs.length) : Calls Try.prog 16 #[v, .int .i64 (room : Int), .int .i64 x] w fun e w' => e = .returned (.tuple #[v, .bool false]) ∧ w = w' := by
  obtain ⟨O, cap, rfl, _⟩ := h.sl
  have e1 : (room : Int) ≤ (zs.length : Int) := by omega
  clear h
  go_enter Try.func16, Try.ntmps16
  go_wp2
  go_ret2
  exact ⟨rfl, rfl⟩
set_option maxRecDepth 100000 in
set_option maxHeartbeats 800000 in
theorem rpush_yes (x : Int) (room : Nat) (h : OwnI w B v zs) (hr : zs.length < room) (hn : zs.length ≤ 1000) : Calls Try.prog 16 #[v, .int .i64 (room : Int), .int .i64 x] w fun e w' => ∃ v', e = .returned (.tuple #[v', .bool true]) ∧ OwnI w' w.heap.size v' (zs ++ [x]) ∧ Below w.heap.size w w' := by
  have hb : Below w.heap.size w (w.alloc (.cells #[] 3)) := (Below.refl _ _).alloc (Nat.le_refl _) _
  obtain ⟨v1, w1, hr1, ho1, hg1, _⟩ := append_ints 30 (own_lit0 w (Nat.le_refl _)) (h.below hb).src (by simp; omega) (by simp)
  rw [List.nil_append] at ho1
  have hb1 : Below w.heap.size w w1 := hb.grown hg1 (by simp) (fun k hk => by simp [Value.ownBlock] at hk; omega)
  have hs1 := hb1.size
  have hb2 : Below w1.heap.size w1 (w1.alloc (.cells #[.int .i64 x] 3)) := (Below.refl _ _).alloc (Nat.le_refl _) _
  obtain ⟨v2, w2, hr2, ho2, hg2, _⟩ := append_ints 30 (ho1.below hb2) (src_one w1 x) (by simp; omega) (by simp; omega)
  have hb3 : Below w.heap.size w w2 := (hb1.trans (hb2.mono hs1)).grown hg2 (by simp; omega) (fun k hk => (ho1.lt hk).1)
  obtain ⟨O, cap, rfl, _⟩ := h.sl
  have HR1 := Lib.hid hr1; have HR2 := Lib.hid hr2; have HF := Lib.hid (And.intro ho2 hb3)
  clear hb hr1 ho1 hg1 hb1 hb2 hr2 ho2 hg2 hb3 h
  have e1 : ¬ (room : Int) ≤ (zs.length : Int) := by omega
  go_enter Try.func16, Try.ntmps16
  go_wp2_with (first | (at_builtin; (refine Lib.wpList_append_run _ rfl (.tmp 13) (.tmp 14) 30 30 rfl _ _ rfl rfl v1 w1 HR1.out ?_)) | (at_builtin; (refine Lib.wpList_append_run _ rfl (.tmp 15) (.tmp 17) 30 30 rfl _ _ rfl rfl v2 w2 HR2.out ?_)))
  go_ret2
  exact ⟨v2, rfl, HF.out⟩
set_option maxHeartbeats 400000 in
theorem rpop_none (h : OwnI w B v []) : Calls Try.prog 17 #[v] w fun e w' => e = .returned (.tuple #[v, .int .i64 0, .bool false]) ∧ w = w' := by
  obtain ⟨O, cap, rfl, _⟩ := h.sl
  clear h
  go_enter Try.func17, Try.ntmps17
  go_wp2
  go_ret3
  exact ⟨rfl, rfl⟩
/-- 'l[1:]' of a row of numbers -/
def tailI (g N cap : Nat) : Value := .slice (some (if cap = 1 then ⟨g, 0, none⟩ else ⟨g, 1, none⟩)) (N - 1) (cap - 1)
theorem run_tailI (W : World) (g N cap : Nat) (hb : 1 ≤ N) (_ : N ≤ cap) :
    (Instr.slice 30 (.slice (some ⟨g, 0, none⟩) N cap) (some (.int .i64 1)) none none).run Try.prog W = .ok (tailI g N cap) W := by
  have ht' : Try.prog.underlying 30 = some (.slice (Try.prog.elem 30)) := by simp [Program.elem, Try.underlying30]
  have he : Try.prog.elem 30 = 3 := by simp [Program.elem, Try.underlying30]
  rw [run_slice_l W 30 _ _ _ ht' .i64 1 (by omega) (by omega), he, Try.sizeOf3]
  unfold tailI
  by_cases h0 : cap = 1
  · simp [Result.andThen, sliced, h0]
  · simp [Result.andThen, sliced, Addr.add, h0]
theorem tail_srcI {g N cap : Nat} {x : Int} (h : OwnI w B (.slice (some ⟨g, 0, none⟩) N cap) (x :: zs)) : SrcI w (tailI g N cap) zs := by
  have hcap := h.cap
  have hN : N = zs.length + 1 := h.len
  unfold tailI
  by_cases h0 : cap = 1
  · refine .inr ⟨g, 0, cap - 1, by rw [if_pos h0, hN]; rfl, fun i hi => ?_⟩
    omega
  · refine .inr ⟨g, 1, cap - 1, by rw [if_neg h0, hN]; rfl, fun i hi => ?_⟩
    have := World.ownsRow.cells h (g := g) (by rw [hN]; rfl) (i + 1) (.int .i64 (zs.getD i 0)) (by simp [hi])
    rw [add_at, Nat.zero_add, Nat.add_comm] at this
    exact this
set_option maxRecDepth 100000 in
set_option maxHeartbeats 800000 in
theorem rpop_some {x : Int} (h : OwnI w B v (x :: zs)) (hn : zs.length ≤ 1000) : Calls Try.prog 17 #[v] w fun e w' => ∃ v', e = .returned (.tuple #[v', .int .i64 x, .bool true]) ∧ OwnI w' w.heap.size v' zs ∧ Below w.heap.size w w' := by
  obtain ⟨g, cap, rfl, hc, hg, hcell⟩ := h.cons
  have hb : Below w.heap.size w (w.drew.alloc (.cells #[] 3)) := (below_drewN (Below.refl _ _) 1).alloc (Nat.le_refl _) _
  have ho0 : OwnI (w.drew.alloc (.cells #[] 3)) w.heap.size (.slice (some ⟨w.heap.size, 0, none⟩) 0 0) [] := own_lit0 w.drew (Nat.le_refl _)
  obtain ⟨v1, w1, hr1, ho1, hg1, _⟩ := append_ints 30 ho0 (tail_srcI (h.below hb)) (by simp; omega) (by simp)
  rw [List.nil_append] at ho1
  have hb1 : Below w.heap.size w w1 := hb.grown hg1 (by simp) (fun k hk => by simp [Value.ownBlock] at hk; omega)
  have S1 : w1.cell? ⟨g, 0, none⟩ = some (.int .i64 x) := by rw [hb1.cell (p := ⟨g, 0, none⟩) hg]; exact hcell
  have hrt := fun W => run_tailI W g (zs.length + 1) cap (by omega) hc
  obtain ⟨ad, had⟩ : ∃ ad, tailI g (zs.length + 1) cap = .slice (some ad) zs.length (cap - 1) := ⟨_, rfl⟩
  rw [had] at hrt hr1
  have HR1 := Lib.hid hr1; have HF := Lib.hid (And.intro ho1 hb1)
  have b1 : ((((zs.length + 1 : Nat)) : Int) == 0) = false := beq_eq_false_iff_ne.2 (by omega)
  have b2 : (0 : Int) < ((zs.length + 1 : Nat) : Int) := by omega
  have b3 : 0 < zs.length + 1 := by omega
  clear hb hr1 ho1 hg1 hb1 h had ho0
  generalize zs.length + 1 = N at *
  go_enter Try.func17, Try.ntmps17
  go_wp2_with fail
  go_region_held3 (fun w' => w'.cell? ⟨g, 0, none⟩ = some (.int .i64 x))
    (first | go_keep | exact S1)
    ((refine step_append_run (by rfl) (.tmp 9) (.tmp 11) 30 30 (by rfl) _ _ (by rfl) (by rfl) v1 w1 HR1.out ?_))
  all_goals go_wp2_with fail
  go_ret3
  exact ⟨v1, rfl, HF.out⟩
end
end Go.Proofs.Ytenajaiedoigpaa
