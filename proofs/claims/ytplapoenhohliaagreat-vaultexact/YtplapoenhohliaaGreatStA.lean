import Derived.Test.YtplapoenhohliaaGreatSPlain
namespace Go.Proofs.YtplapoenhohliaaGreat
open Go.RowKit Go.Lib
set_option linter.unusedVariables false
set_option linter.unusedSimpArgs false
abbrev RP (r : K × Int) : Value := .tuple #[r.1.V, .int .i64 r.2]
def Ans (w : World) (r : K × Int) (e : Ending) (w' : World) : Prop := e = .returned (RP r) ∧ Below w.heap.size w w'
def kfree (x : K) : K := if x.kind = 3 then x else { x with car := 0 }
def boardK (x : K) : K × Int := if x.st = 2 ∧ x.kind = 4 then ({ x with st := 3 }, 0) else (zk, 7)
def serveK (x : K) : K × Int := if x.st = 3 ∨ x.st = 2 ∧ x.kind ≠ 4 then ({ x with st := 4 }, 0) else (zk, 7)
def cancelK (x : K) : K × Int := if x.st = 1 ∨ x.st = 2 then ({ x with st := 5 }, 0) else (zk, 7)
def expireK (x : K) : K × Int := if x.st = 1 then (kfree { x with st := 6 }, 0) else (zk, 7)
structure Two (w W : World) (p q : Nat) (x : K) : Prop where
 bel : Below w.heap.size w W
 ge : w.heap.size ≤ p ∧ w.heap.size ≤ q
 ne : q ≠ p
 at_ : KAt W p x
 ans : ∃ z : K, KAt W q z
abbrev Z8 : Array Value := #[.int .i64 0, .int .i64 0, .int .i64 0, .int .i64 0, .int .i64 0, .int .i64 0, .int .i64 0, .int .i64 0]
theorem Two.new (w : World) (x : K) : Two w ((w.alloc (.cells x.cells 46)).alloc (.cells Z8 46)) w.heap.size (w.heap.size + 1) x := by
 have hs : (w.alloc (.cells x.cells 46)).heap.size = w.heap.size + 1 := by simp
 refine ⟨((Below.refl w.heap.size w).alloc (Nat.le_refl _) _).alloc (by simp) _, ⟨Nat.le_refl _, by omega⟩, by omega, (KAt.new w x).step (below_new _ _), zk, ?_⟩
 have := KAt.new (w.alloc (.cells x.cells 46)) zk
 rw [hs] at this
 exact this
theorem Two.out {w W : World} {p q : Nat} {x : K} (h : Two w W p q x) (d : K) : KAt (W.setRow q d.cells) q d ∧ Below w.heap.size w (W.setRow q d.cells) := by
 obtain ⟨z, hz⟩ := h.ans
 exact ⟨KAt.setRow hz d, below_setRow h.bel h.ge.2 _⟩
theorem Two.set {w W : World} {p q : Nat} {x y : K} (h : Two w W p q x) (i : Nat) (n : Value) (hy : KAt (W.setCell ⟨p, i, none⟩ n) p y) : Two w (W.setCell ⟨p, i, none⟩ n) p q y := by
 obtain ⟨z, hz⟩ := h.ans
 exact ⟨h.bel.setCell h.ge.1 _, h.ge, h.ne, hy, z, At.far hz h.ne _⟩
theorem Two.set5 {w W : World} {p q : Nat} {x : K} (h : Two w W p q x) (n : Int) : Two w (W.setCell ⟨p, 5, none⟩ (.int .i64 n)) p q { x with st := n } := h.set 5 _ (KAt.set5 h.at_ n)
theorem Two.set4 {w W : World} {p q : Nat} {x : K} (h : Two w W p q x) (n : Int) : Two w (W.setCell ⟨p, 4, none⟩ (.int .i64 n)) p q { x with car := n } := h.set 4 _ (KAt.set4 h.at_ n)
theorem Two.set2 {w W : World} {p q : Nat} {x : K} (h : Two w W p q x) (n : Int) : Two w (W.setCell ⟨p, 2, none⟩ (.int .i64 n)) p q { x with frm := n } := h.set 2 _ (KAt.set2 h.at_ n)
theorem Two.step {w W W' : World} {p q : Nat} {x : K} (h : Two w W p q x) (hb : Below W.heap.size W W') : Two w W' p q x := by
 obtain ⟨z, hz⟩ := h.ans
 exact ⟨h.bel.trans (hb.mono h.bel.size), h.ge, h.ne, h.at_.step hb, z, hz.step hb⟩
theorem Two.fin {w W : World} {p q : Nat} {x : K} (h : Two w W p q x) {r : K × Int} {d : K} {n : Int} (hr : r = (d, n)) : Ans w r (.returned (.tuple #[d.V, .int .i64 n])) (W.setRow q d.cells) := ⟨by rw [hr], (h.out d).2⟩
set_option maxRecDepth 100000 in
set_option maxHeartbeats 1000000 in
theorem board_any (x : K) (w : World) : Calls Tryz.prog 116 #[x.V] w (Ans w (boardK x)) := by
 have HT := Lib.hid (Two.new w x)
 by_cases h1 : x.st = 2
 ·have d1 : decide (x.st = 2) = true := (by simpa using h1); have n1 : (x.st != 2) = false := (by simpa using h1); have q1 : (x.st == 2) = true := (by simpa using h1)
  by_cases h2 : x.kind = 4
  ·have d2 : decide (x.kind = 4) = true := (by simpa using h2); have n2 : (x.kind != 4) = false := (by simpa using h2); have q2 : (x.kind == 4) = true := (by simpa using h2)
   have HR := Lib.hid (show boardK x = ({ x with st := 3 }, 0) from if_pos ⟨h1, h2⟩)
   go_enter Tryz.func116, Tryz.ntmps116
   go_upto_region 1 with fail
   obtain ⟨W, hW⟩ : ∃ W, (w.alloc (.cells x.cells 46)).alloc (.cells Z8 46) = W := ⟨_, rfl⟩
   rw [hW] at HT ⊢; clear hW
   generalize w.heap.size + 1 = q at HT ⊢
   generalize w.heap.size = p at HT ⊢
   have k1 := HT.out.at_.get1; have k5 := HT.out.at_.get5; have f5 := At.frozen HT.out.at_ 5
   have HT2 := Lib.hid (HT.out.set5 3); clear HT
   generalize hd : ({ x with st := 3 } : K) = d at HT2 HR
   have HA := Lib.hid HT2.out.at_
   obtain ⟨z, hz⟩ := HT2.out.ans
   have HZ := Lib.hid hz; clear hz hd
   go_wp2_with (first | ((with_reducible apply wpList_load_kat (h := HA.out)); exact rfl; exact rfl; exact rfl) | ((with_reducible apply wpList_store_kat (c := d) (hq := HZ.out)); exact rfl; exact rfl; exact rfl; exact rfl))
   exact bodyPost_ret (results_pair Tryz.results116 rfl rfl (HT2.out.out d).1) rfl (HT2.out.fin HR.out)
  ·have d2 : decide (x.kind = 4) = false := (by simpa using h2); have n2 : (x.kind != 4) = true := (by simpa using h2); have q2 : (x.kind == 4) = false := (by simpa using h2)
   have HR : Hid (_ = (zk, (7 : Int))) := Lib.hid (show boardK x = _ from if_neg (fun h => h2 h.2))
   go_enter Tryz.func116, Tryz.ntmps116
   go_upto_region 1 with fail
   obtain ⟨W, hW⟩ : ∃ W, (w.alloc (.cells x.cells 46)).alloc (.cells Z8 46) = W := ⟨_, rfl⟩
   rw [hW] at HT ⊢; clear hW
   generalize w.heap.size + 1 = q at HT ⊢
   generalize w.heap.size = p at HT ⊢
   have k1 := HT.out.at_.get1; have k5 := HT.out.at_.get5; have f5 := At.frozen HT.out.at_ 5
   obtain ⟨z, hz⟩ := HT.out.ans
   have HZ := Lib.hid hz; clear hz
   go_wp2_with ((with_reducible apply wpList_store_kat (c := zk) (hq := HZ.out)); exact rfl; exact rfl; exact rfl; exact rfl)
   exact bodyPost_ret (results_pair Tryz.results116 rfl rfl (HT.out.out zk).1) rfl (HT.out.fin HR.out)
 ·have d1 : decide (x.st = 2) = false := (by simpa using h1); have n1 : (x.st != 2) = true := (by simpa using h1); have q1 : (x.st == 2) = false := (by simpa using h1)
  have HR : Hid (_ = (zk, (7 : Int))) := Lib.hid (show boardK x = _ from if_neg (fun h => h1 h.1))
  go_enter Tryz.func116, Tryz.ntmps116
  go_upto_region 1 with fail
  obtain ⟨W, hW⟩ : ∃ W, (w.alloc (.cells x.cells 46)).alloc (.cells Z8 46) = W := ⟨_, rfl⟩
  rw [hW] at HT ⊢; clear hW
  generalize w.heap.size + 1 = q at HT ⊢
  generalize w.heap.size = p at HT ⊢
  have k1 := HT.out.at_.get1; have k5 := HT.out.at_.get5; have f5 := At.frozen HT.out.at_ 5
  obtain ⟨z, hz⟩ := HT.out.ans
  have HZ := Lib.hid hz; clear hz
  go_wp2_with ((with_reducible apply wpList_store_kat (c := zk) (hq := HZ.out)); exact rfl; exact rfl; exact rfl; exact rfl)
  exact bodyPost_ret (results_pair Tryz.results116 rfl rfl (HT.out.out zk).1) rfl (HT.out.fin HR.out)
set_option maxRecDepth 100000 in
set_option maxHeartbeats 1000000 in
theorem serve_any (x : K) (w : World) : Calls Tryz.prog 117 #[x.V] w (Ans w (serveK x)) := by
 have HT := Lib.hid (Two.new w x)
 by_cases h1 : x.st = 3
 ·have d1 : decide (x.st = 3) = true := (by simpa using h1); have n1 : (x.st != 3) = false := (by simpa using h1); have q1 : (x.st == 3) = true := (by simpa using h1)
  have HR := Lib.hid (show serveK x = ({ x with st := 4 }, 0) from if_pos (.inl h1))
  go_enter Tryz.func117, Tryz.ntmps117
  go_upto_region 1 with fail
  obtain ⟨W, hW⟩ : ∃ W, (w.alloc (.cells x.cells 46)).alloc (.cells Z8 46) = W := ⟨_, rfl⟩
  rw [hW] at HT ⊢; clear hW
  generalize w.heap.size + 1 = q at HT ⊢
  generalize w.heap.size = p at HT ⊢
  have k1 := HT.out.at_.get1; have k5 := HT.out.at_.get5; have f5 := At.frozen HT.out.at_ 5
  have HT2 := Lib.hid (HT.out.set5 4); clear HT
  generalize hd : ({ x with st := 4 } : K) = d at HT2 HR
  have HA := Lib.hid HT2.out.at_
  obtain ⟨z, hz⟩ := HT2.out.ans
  have HZ := Lib.hid hz; clear hz hd
  go_wp2_with (first | ((with_reducible apply wpList_load_kat (h := HA.out)); exact rfl; exact rfl; exact rfl) | ((with_reducible apply wpList_store_kat (c := d) (hq := HZ.out)); exact rfl; exact rfl; exact rfl; exact rfl))
  exact bodyPost_ret (results_pair Tryz.results117 rfl rfl (HT2.out.out d).1) rfl (HT2.out.fin HR.out)
 ·have d1 : decide (x.st = 3) = false := (by simpa using h1); have n1 : (x.st != 3) = true := (by simpa using h1); have q1 : (x.st == 3) = false := (by simpa using h1)
  by_cases h2 : x.st = 2
  ·have d2 : decide (x.st = 2) = true := (by simpa using h2); have n2 : (x.st != 2) = false := (by simpa using h2); have q2 : (x.st == 2) = true := (by simpa using h2)
   by_cases h3 : x.kind = 4
   ·have d3 : decide (x.kind = 4) = true := (by simpa using h3); have n3 : (x.kind != 4) = false := (by simpa using h3); have q3 : (x.kind == 4) = true := (by simpa using h3)
    have HR : Hid (_ = (zk, (7 : Int))) := Lib.hid (show serveK x = _ from if_neg (fun h => h.elim h1 (fun h => h.2 h3)))
    go_enter Tryz.func117, Tryz.ntmps117
    go_upto_region 1 with fail
    obtain ⟨W, hW⟩ : ∃ W, (w.alloc (.cells x.cells 46)).alloc (.cells Z8 46) = W := ⟨_, rfl⟩
    rw [hW] at HT ⊢; clear hW
    generalize w.heap.size + 1 = q at HT ⊢
    generalize w.heap.size = p at HT ⊢
    have k1 := HT.out.at_.get1; have k5 := HT.out.at_.get5; have f5 := At.frozen HT.out.at_ 5
    obtain ⟨z, hz⟩ := HT.out.ans
    have HZ := Lib.hid hz; clear hz
    go_wp2_with ((with_reducible apply wpList_store_kat (c := zk) (hq := HZ.out)); exact rfl; exact rfl; exact rfl; exact rfl)
    exact bodyPost_ret (results_pair Tryz.results117 rfl rfl (HT.out.out zk).1) rfl (HT.out.fin HR.out)
   ·have d3 : decide (x.kind = 4) = false := (by simpa using h3); have n3 : (x.kind != 4) = true := (by simpa using h3); have q3 : (x.kind == 4) = false := (by simpa using h3)
    have HR := Lib.hid (show serveK x = ({ x with st := 4 }, 0) from if_pos (.inr ⟨h2, h3⟩))
    go_enter Tryz.func117, Tryz.ntmps117
    go_upto_region 1 with fail
    obtain ⟨W, hW⟩ : ∃ W, (w.alloc (.cells x.cells 46)).alloc (.cells Z8 46) = W := ⟨_, rfl⟩
    rw [hW] at HT ⊢; clear hW
    generalize w.heap.size + 1 = q at HT ⊢
    generalize w.heap.size = p at HT ⊢
    have k1 := HT.out.at_.get1; have k5 := HT.out.at_.get5; have f5 := At.frozen HT.out.at_ 5
    have HT2 := Lib.hid (HT.out.set5 4); clear HT
    generalize hd : ({ x with st := 4 } : K) = d at HT2 HR
    have HA := Lib.hid HT2.out.at_
    obtain ⟨z, hz⟩ := HT2.out.ans
    have HZ := Lib.hid hz; clear hz hd
    go_wp2_with (first | ((with_reducible apply wpList_load_kat (h := HA.out)); exact rfl; exact rfl; exact rfl) | ((with_reducible apply wpList_store_kat (c := d) (hq := HZ.out)); exact rfl; exact rfl; exact rfl; exact rfl))
    exact bodyPost_ret (results_pair Tryz.results117 rfl rfl (HT2.out.out d).1) rfl (HT2.out.fin HR.out)
  ·have d2 : decide (x.st = 2) = false := (by simpa using h2); have n2 : (x.st != 2) = true := (by simpa using h2); have q2 : (x.st == 2) = false := (by simpa using h2)
   have HR : Hid (_ = (zk, (7 : Int))) := Lib.hid (show serveK x = _ from if_neg (fun h => h.elim h1 (fun h => h2 h.1)))
   go_enter Tryz.func117, Tryz.ntmps117
   go_upto_region 1 with fail
   obtain ⟨W, hW⟩ : ∃ W, (w.alloc (.cells x.cells 46)).alloc (.cells Z8 46) = W := ⟨_, rfl⟩
   rw [hW] at HT ⊢; clear hW
   generalize w.heap.size + 1 = q at HT ⊢
   generalize w.heap.size = p at HT ⊢
   have k1 := HT.out.at_.get1; have k5 := HT.out.at_.get5; have f5 := At.frozen HT.out.at_ 5
   obtain ⟨z, hz⟩ := HT.out.ans
   have HZ := Lib.hid hz; clear hz
   go_wp2_with ((with_reducible apply wpList_store_kat (c := zk) (hq := HZ.out)); exact rfl; exact rfl; exact rfl; exact rfl)
   exact bodyPost_ret (results_pair Tryz.results117 rfl rfl (HT.out.out zk).1) rfl (HT.out.fin HR.out)
set_option maxRecDepth 100000 in
set_option maxHeartbeats 1000000 in
theorem cancel_any (x : K) (w : World) : Calls Tryz.prog 37 #[x.V] w (Ans w (cancelK x)) := by
 have HT := Lib.hid (Two.new w x)
 by_cases h1 : x.st = 1
 ·have d1 : decide (x.st = 1) = true := (by simpa using h1); have n1 : (x.st != 1) = false := (by simpa using h1); have q1 : (x.st == 1) = true := (by simpa using h1)
  have HR := Lib.hid (show cancelK x = ({ x with st := 5 }, 0) from if_pos (.inl h1))
  go_enter Tryz.func37, Tryz.ntmps37
  go_upto_region 1 with fail
  obtain ⟨W, hW⟩ : ∃ W, (w.alloc (.cells x.cells 46)).alloc (.cells Z8 46) = W := ⟨_, rfl⟩
  rw [hW] at HT ⊢; clear hW
  generalize w.heap.size + 1 = q at HT ⊢
  generalize w.heap.size = p at HT ⊢
  have k1 := HT.out.at_.get1; have k5 := HT.out.at_.get5; have f5 := At.frozen HT.out.at_ 5
  have HT2 := Lib.hid (HT.out.set5 5); clear HT
  generalize hd : ({ x with st := 5 } : K) = d at HT2 HR
  have HA := Lib.hid HT2.out.at_
  obtain ⟨z, hz⟩ := HT2.out.ans
  have HZ := Lib.hid hz; clear hz hd
  go_wp2_with (first | ((with_reducible apply wpList_load_kat (h := HA.out)); exact rfl; exact rfl; exact rfl) | ((with_reducible apply wpList_store_kat (c := d) (hq := HZ.out)); exact rfl; exact rfl; exact rfl; exact rfl))
  exact bodyPost_ret (results_pair Tryz.results37 rfl rfl (HT2.out.out d).1) rfl (HT2.out.fin HR.out)
 ·have d1 : decide (x.st = 1) = false := (by simpa using h1); have n1 : (x.st != 1) = true := (by simpa using h1); have q1 : (x.st == 1) = false := (by simpa using h1)
  by_cases h2 : x.st = 2
  ·have d2 : decide (x.st = 2) = true := (by simpa using h2); have n2 : (x.st != 2) = false := (by simpa using h2); have q2 : (x.st == 2) = true := (by simpa using h2)
   have HR := Lib.hid (show cancelK x = ({ x with st := 5 }, 0) from if_pos (.inr h2))
   go_enter Tryz.func37, Tryz.ntmps37
   go_upto_region 1 with fail
   obtain ⟨W, hW⟩ : ∃ W, (w.alloc (.cells x.cells 46)).alloc (.cells Z8 46) = W := ⟨_, rfl⟩
   rw [hW] at HT ⊢; clear hW
   generalize w.heap.size + 1 = q at HT ⊢
   generalize w.heap.size = p at HT ⊢
   have k1 := HT.out.at_.get1; have k5 := HT.out.at_.get5; have f5 := At.frozen HT.out.at_ 5
   have HT2 := Lib.hid (HT.out.set5 5); clear HT
   generalize hd : ({ x with st := 5 } : K) = d at HT2 HR
   have HA := Lib.hid HT2.out.at_
   obtain ⟨z, hz⟩ := HT2.out.ans
   have HZ := Lib.hid hz; clear hz hd
   go_wp2_with (first | ((with_reducible apply wpList_load_kat (h := HA.out)); exact rfl; exact rfl; exact rfl) | ((with_reducible apply wpList_store_kat (c := d) (hq := HZ.out)); exact rfl; exact rfl; exact rfl; exact rfl))
   exact bodyPost_ret (results_pair Tryz.results37 rfl rfl (HT2.out.out d).1) rfl (HT2.out.fin HR.out)
  ·have d2 : decide (x.st = 2) = false := (by simpa using h2); have n2 : (x.st != 2) = true := (by simpa using h2); have q2 : (x.st == 2) = false := (by simpa using h2)
   have HR : Hid (_ = (zk, (7 : Int))) := Lib.hid (show cancelK x = _ from if_neg (fun h => h.elim h1 h2))
   go_enter Tryz.func37, Tryz.ntmps37
   go_upto_region 1 with fail
   obtain ⟨W, hW⟩ : ∃ W, (w.alloc (.cells x.cells 46)).alloc (.cells Z8 46) = W := ⟨_, rfl⟩
   rw [hW] at HT ⊢; clear hW
   generalize w.heap.size + 1 = q at HT ⊢
   generalize w.heap.size = p at HT ⊢
   have k1 := HT.out.at_.get1; have k5 := HT.out.at_.get5; have f5 := At.frozen HT.out.at_ 5
   obtain ⟨z, hz⟩ := HT.out.ans
   have HZ := Lib.hid hz; clear hz
   go_wp2_with ((with_reducible apply wpList_store_kat (c := zk) (hq := HZ.out)); exact rfl; exact rfl; exact rfl; exact rfl)
   exact bodyPost_ret (results_pair Tryz.results37 rfl rfl (HT.out.out zk).1) rfl (HT.out.fin HR.out)
set_option maxRecDepth 100000 in
set_option maxHeartbeats 1000000 in
theorem free_any (x : K) (w : World) : Calls Tryz.prog 120 #[x.V] w fun e w' => e = .returned (kfree x).V ∧ Below w.heap.size w w' := by
 have HT := Lib.hid (Two.new w x)
 have HBW : Hid (∀ w', Below w.heap.size w w' → Below w.heap.size w w') := Lib.hid fun _ h => h
 by_cases h1 : x.kind = 3
 ·have d1 : decide (x.kind = 3) = true := (by simpa using h1); have n1 : (x.kind != 3) = false := (by simpa using h1); have q1 : (x.kind == 3) = true := (by simpa using h1)
  have HR := Lib.hid (show kfree x = x from if_pos h1)
  go_enter Tryz.func120, Tryz.ntmps120
  go_upto_region 1 with fail
  obtain ⟨W, hW⟩ : ∃ W, (w.alloc (.cells x.cells 46)).alloc (.cells Z8 46) = W := ⟨_, rfl⟩
  rw [hW] at HT ⊢; clear hW
  generalize w.heap.size + 1 = q at HT ⊢
  generalize hp : w.heap.size = p at HT ⊢
  have HP := Lib.hid hp; clear hp
  have k1 := HT.out.at_.get1; have k5 := HT.out.at_.get5; have f5 := At.frozen HT.out.at_ 5
  have HA := Lib.hid HT.out.at_
  obtain ⟨z, hz⟩ := HT.out.ans
  have HZ := Lib.hid hz; clear hz
  go_wp2_with (first | ((with_reducible apply wpList_load_kat (h := HA.out)); exact rfl; exact rfl; exact rfl) | ((with_reducible apply wpList_store_kat (c := x) (hq := HZ.out)); exact rfl; exact rfl; exact rfl; exact rfl))
  exact bodyPost_ret (results_cell_row (P := Tryz.prog) Tryz.results120 _ _ q 46 x.cells (0, 0) _ rfl (HT.out.out x).1 Tryz.underlying46 rfl (size26 x)) rfl ⟨by rw [HR.out], HP.out ▸ (HT.out.out x).2⟩
 ·have d1 : decide (x.kind = 3) = false := (by simpa using h1); have n1 : (x.kind != 3) = true := (by simpa using h1); have q1 : (x.kind == 3) = false := (by simpa using h1)
  have HR := Lib.hid (show kfree x = { x with car := 0 } from if_neg h1)
  go_enter Tryz.func120, Tryz.ntmps120
  go_upto_region 1 with fail
  obtain ⟨W, hW⟩ : ∃ W, (w.alloc (.cells x.cells 46)).alloc (.cells Z8 46) = W := ⟨_, rfl⟩
  rw [hW] at HT ⊢; clear hW
  generalize w.heap.size + 1 = q at HT ⊢
  generalize hp : w.heap.size = p at HT ⊢
  have HP := Lib.hid hp; clear hp
  have k4 := HT.out.at_.get4; have f4 := At.frozen HT.out.at_ 4; have k1 := HT.out.at_.get1; have k5 := HT.out.at_.get5; have f5 := At.frozen HT.out.at_ 5
  have HT2 := Lib.hid (HT.out.set4 0); clear HT
  generalize hd : ({ x with car := 0 } : K) = d at HT2 HR
  have HA := Lib.hid HT2.out.at_
  obtain ⟨z, hz⟩ := HT2.out.ans
  have HZ := Lib.hid hz; clear hz hd
  go_wp2_with (first | ((with_reducible apply wpList_load_kat (h := HA.out)); exact rfl; exact rfl; exact rfl) | ((with_reducible apply wpList_store_kat (c := d) (hq := HZ.out)); exact rfl; exact rfl; exact rfl; exact rfl))
  exact bodyPost_ret (results_cell_row (P := Tryz.prog) Tryz.results120 _ _ q 46 d.cells (0, 0) _ rfl (HT2.out.out d).1 Tryz.underlying46 rfl (size26 d)) rfl ⟨by rw [HR.out], HP.out ▸ (HT2.out.out d).2⟩
set_option maxRecDepth 100000 in
set_option maxHeartbeats 1000000 in
theorem expire_any (x : K) (w : World) : Calls Tryz.prog 118 #[x.V] w (Ans w (expireK x)) := by
 have HT := Lib.hid (Two.new w x)
 by_cases h1 : x.st = 1
 ·have d1 : decide (x.st = 1) = true := (by simpa using h1); have n1 : (x.st != 1) = false := (by simpa using h1); have q1 : (x.st == 1) = true := (by simpa using h1)
  have HR := Lib.hid (show expireK x = (kfree { x with st := 6 }, 0) from if_pos h1)
  go_enter Tryz.func118, Tryz.ntmps118
  go_upto_region 1 with fail
  obtain ⟨W, hW⟩ : ∃ W, (w.alloc (.cells x.cells 46)).alloc (.cells Z8 46) = W := ⟨_, rfl⟩
  rw [hW] at HT ⊢; clear hW
  generalize w.heap.size + 1 = q at HT ⊢
  generalize w.heap.size = p at HT ⊢
  have k1 := HT.out.at_.get1; have k5 := HT.out.at_.get5; have f5 := At.frozen HT.out.at_ 5
  have HT2 := Lib.hid (HT.out.set5 6); clear HT
  generalize hd : ({ x with st := 6 } : K) = d at HT2 HR
  have HA := Lib.hid HT2.out.at_
  have CF := Lib.hid (fun W => free_any d W)
  generalize kfree d = d2 at CF HR
  go_wp2_with ((with_reducible apply wpList_load_kat (h := HA.out)); exact rfl; exact rfl; exact rfl)
  refine (CF.out _).mono ?_
  rintro e w1 ⟨rfl, hb⟩
  have HT3 := Lib.hid (HT2.out.step hb); clear hb HT2
  obtain ⟨z, hz⟩ := HT3.out.ans
  have HZ := Lib.hid hz; clear hz hd
  go_wp2_with ((with_reducible apply wpList_store_kat (c := d2) (hq := HZ.out)); exact rfl; exact rfl; exact rfl; exact rfl)
  exact bodyPost_ret (results_pair Tryz.results118 rfl rfl (HT3.out.out d2).1) rfl (HT3.out.fin HR.out)
 ·have d1 : decide (x.st = 1) = false := (by simpa using h1); have n1 : (x.st != 1) = true := (by simpa using h1); have q1 : (x.st == 1) = false := (by simpa using h1)
  have HR : Hid (_ = (zk, (7 : Int))) := Lib.hid (show expireK x = _ from if_neg h1)
  go_enter Tryz.func118, Tryz.ntmps118
  go_upto_region 1 with fail
  obtain ⟨W, hW⟩ : ∃ W, (w.alloc (.cells x.cells 46)).alloc (.cells Z8 46) = W := ⟨_, rfl⟩
  rw [hW] at HT ⊢; clear hW
  generalize w.heap.size + 1 = q at HT ⊢
  generalize w.heap.size = p at HT ⊢
  have k1 := HT.out.at_.get1; have k5 := HT.out.at_.get5; have f5 := At.frozen HT.out.at_ 5
  obtain ⟨z, hz⟩ := HT.out.ans
  have HZ := Lib.hid hz; clear hz
  go_wp2_with ((with_reducible apply wpList_store_kat (c := zk) (hq := HZ.out)); exact rfl; exact rfl; exact rfl; exact rfl)
  exact bodyPost_ret (results_pair Tryz.results118 rfl rfl (HT.out.out zk).1) rfl (HT.out.fin HR.out)
end Go.Proofs.YtplapoenhohliaaGreat
