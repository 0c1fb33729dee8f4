import Derived.Test.YtplapoenhohliaaGreatVtI
import Derived.Test.YtplapoenhohliaaGreatBkR
namespace Go.Proofs.YtplapoenhohliaaGreat
open Go.RowKit Go.Lib
open Sh.Plain (KV Rise)
set_option linter.unusedVariables false
set_option linter.unusedSimpArgs false
def Mk (c : Cfg) (b : Bk) (hs : List Cg) : Prop := (∃ F, RPl c b hs F) ∧ ∀ (i : Nat) (y : Cg), hs[i]? = some y → y.ix = (i : Int) + 1
theorem Mk.new (c : Cfg) : Mk c (newB c) [] := ⟨⟨_, RPl.new c⟩, fun i y h => by simp at h⟩
theorem Mk.ok {c : Cfg} {b : Bk} {hs : List Cg} (h : Mk c b hs) : b.Ok := by obtain ⟨⟨F, h⟩, _⟩ := h; exact h.ok
theorem Mk.len {c : Cfg} {b : Bk} {hs : List Cg} (h : Mk c b hs) : b.ix = (hs.length : Int) := by obtain ⟨⟨F, h⟩, _⟩ := h; exact h.len
theorem Mk.eq {c : Cfg} {b d : Bk} {hs : List Cg} (h : Mk c b hs) (k : Mk c d hs) : b = d := by
 obtain ⟨⟨F, h⟩, _⟩ := h; obtain ⟨⟨G, k⟩, _⟩ := k
 exact Option.some.inj (h.run.symm.trans k.run)
theorem Mk.step {c : Cfg} {b d : Bk} {hs : List Cg} {x : Cg} (h : Mk c b hs) (hr : Rise b.live) (hj : hs.length < 1000) (ha : applyB b x = (d, 0)) : Mk c d (hs ++ [x]) ∧ d.ix = b.ix + 1 ∧ x.ix = b.ix + 1 ∧ d.c = b.c := by
 obtain ⟨⟨F, h⟩, hn⟩ := h
 obtain ⟨h1, h2, h3, _, _, h6, _⟩ := h.step hr hj ha (fun z => rfl)
 refine ⟨⟨⟨_, h1⟩, fun i y hy => ?_⟩, h3, h2, h6⟩
 rw [List.getElem?_append] at hy
 split at hy
 ·exact hn i y hy
 ·next hlt =>
  have h0 : i - hs.length = 0 := by
   have := (List.getElem?_eq_some_iff.1 hy).1
   simp at this; omega
  rw [h0] at hy
  have : y = x := by simpa using hy.symm
  subst this
  rw [h2, h.len]; omega
theorem Mk.cancel {c : Cfg} {b d : Bk} {hs : List Cg} {i n : Int} {g : Cg} (h : Mk c b hs) (e : cancelB b i n = (d, g, 0)) : applyB b g = (d, 0) := by
 obtain ⟨⟨F, h⟩, _⟩ := h; exact cancel_apply h e
structure VS (c : Cfg) (w W : World) (g : Nat) (x : Vt) (hs xs : List Cg) : Prop where
 bel : Below w.heap.size w W
 vt : VtAt W g x
 at_ : BAt W x.s.b x.s.o x.s.p
 ow : Sh.OwO eG W w.heap.size x.v xs
 lo : w.heap.size ≤ g
 made : Mk c x.s.b hs
 lg : ∃ k, k ≤ hs.length ∧ xs = hs.drop k
abbrev VC (x : Vt) (g : Nat) (W W' : World) : Prop := Chg W W' (fun j => j = g ∨ x.v.ownBlock = some j)
section
variable {c : Cfg} {w W W' : World} {g : Nat} {x : Vt} {hs xs : List Cg}
theorem VS.rises (h : VS c w W g x hs xs) : Rises xs := by
 obtain ⟨k, hk, rfl⟩ := h.lg
 have hr : Rises hs := by
  refine List.pairwise_iff_getElem.2 fun i j hi hj hij => ?_
  have h1 := h.made.2 i _ (List.getElem?_eq_getElem hi)
  have h2 := h.made.2 j _ (List.getElem?_eq_getElem hj)
  omega
 exact hr.sublist (List.drop_sublist k hs)
theorem VS.len (h : VS c w W g x hs xs) : xs.length ≤ hs.length := by
 obtain ⟨k, hk, rfl⟩ := h.lg
 rw [List.length_drop]; omega
theorem VS.rise (h : VS c w W g x hs xs) : Rise x.s.b.live := by
 obtain ⟨vt, t, _, _, _, hr, _⟩ := h.at_.1
 exact hr
theorem VS.off (h : VS c w W g x hs xs) : Sh.Off W (fun j => j = g ∨ x.v.ownBlock = some j) := vtOff h.vt h.ow
theorem VS.step (h : VS c w W g x hs xs) (hb : Below W.heap.size W W') : VS c w W' g x hs xs := ⟨h.bel.trans (hb.mono h.bel.size), h.vt.step hb, h.at_.step hb, h.ow.below hb, h.lo, h.made, h.lg⟩
theorem VS.below (h : VS c w W g x hs xs) (hc : VC x g W W') : Below w.heap.size w W' := h.bel.trans (hc.toBelow h.bel.size (fun k hk e => by
 rcases e with rfl | e
 ·have := h.lo; omega
 ·have := (h.ow.lt e).1; omega))
theorem vc_g (hc : Chg W W' (fun j => j = g)) : VC x g W W' := hc.mono (fun _ _ h => .inl h)
theorem VS.far (h : VS c w W g x hs xs) (hc : VC x g W W') {k : Nat} {t : TypeId} {cs : Array Value} (ha : At W k t cs) (h1 : t ≠ 82) (h2 : t ≠ 48) : At W' k t cs :=
 At.chg ha hc (fun e => by
  rcases e with rfl | e
  ·exact At.ne ha h.vt h1 rfl
  ·exact h.ow.ty ha (Ne.symm h2) e)
theorem VS.farC (h : VS c w W g x hs xs) (hc : VC x g W W') {k : Nat} {cs : Array Value} (ha : At W k 48 cs) (h1 : x.v.ownBlock ≠ some k) : At W' k 48 cs :=
 At.chg ha hc (fun e => by
  rcases e with rfl | e
  ·exact At.ne ha h.vt (by decide) rfl
  ·exact h1 e)
theorem VS.farB (h : VS c w W g x hs xs) (hc : VC x g W W') {b : Bk} {o p : Option Addr} (ha : BAt W b o p) : BAt W' b o p := ha.chg hc h.off
theorem VS.read (h : VS c w W g x hs xs) : Calls Tryz.prog 12 #[ptr g 0] W fun e w' => e = .returned x.s.V ∧ Below W.heap.size W w' := vread_any h.vt
theorem VS.kept (h : VS c w W g x hs xs) : Calls Tryz.prog 11 #[ptr g 0] W fun e w' => e = .returned (.int .i64 (xs.length : Int)) ∧ Below W.heap.size W w' := by
 obtain ⟨O, cap, hv, _⟩ := h.ow.form
 refine (kept_any h.vt hv).mono ?_
 rintro e w' ⟨rfl, rfl⟩
 exact ⟨rfl, Below.refl _ _⟩
theorem VS.tries (h : VS c w W g x hs xs) : Calls Tryz.prog 22 #[ptr g 0] W fun e w' => e = .returned (.tuple #[.int .i64 x.n, .int .i64 x.m]) ∧ Below W.heap.size W w' := by
 refine (tries_any h.vt).mono ?_
 rintro e w' ⟨rfl, n, rfl⟩
 exact ⟨rfl, below_drewN (Below.refl _ _) n⟩
theorem VS.tick (h : VS c w W g x hs xs) (h0 : 0 ≤ x.s.t) (h1 : x.s.t < 1000) : Calls Tryz.prog 8 #[ptr g 0] W fun e w' => e = .returned (.bool true) ∧ VS c w w' g { x with s := { x.s with t := x.s.t + 1 } } hs xs ∧ VC x g W w' := by
 refine (tick_any h.vt h0 h1).mono ?_
 rintro e w' ⟨rfl, hv, hc⟩
 have hvc : VC x g W w' := vc_g hc
 exact ⟨rfl, ⟨h.below hvc, hv, h.farB hvc h.at_, h.ow.chg hc (fun k hk e => h.ow.ty h.vt (show eG.e ≠ _ from by decide) (e ▸ hk)), h.lo, h.made, h.lg⟩, hvc⟩
theorem VS.stale (h : VS c w W g x hs xs) {s : Sp} {b : Bk} {o p : Option Addr} {ch : Cg} {k : Yk} (hi : s.b.ix ≠ x.s.b.ix) (hn : 0 ≤ x.n ∧ x.n < 1000) (hm : 0 ≤ x.m ∧ x.m < 1000) : Calls Tryz.prog 7 #[ptr g 0, s.V, b.V o p, ch.V, k.V] W fun e w' => e = .returned (.int .i64 9) ∧ VS c w w' g { x with n := x.n + 1, m := x.m + 1 } hs xs ∧ VC x g W w' := by
 refine (commit_stale h.vt hi ⟨hn.1, by omega⟩ ⟨hm.1, by omega⟩).mono ?_
 rintro e w' ⟨rfl, hv, hc⟩
 have hvc : VC x g W w' := vc_g hc
 exact ⟨rfl, ⟨h.below hvc, hv, h.farB hvc h.at_, h.ow.chg hc (fun k hk e => h.ow.ty h.vt (show eG.e ≠ _ from by decide) (e ▸ hk)), h.lo, h.made, h.lg⟩, hvc⟩
theorem VS.arg (h : VS c w W g x hs xs) {s : Sp} {b d : Bk} {o p : Option Addr} {ch : Cg} {k : Yk} {e0 : Int} (hi : s.b.ix = x.s.b.ix) (hn : 0 ≤ x.n ∧ x.n < 1000) (hap : applyB x.s.b ch = (d, e0)) (hd : e0 ≠ 0 ∨ e0 = 0 ∧ d.c = b.c ∧ d.ix ≠ b.ix) : Calls Tryz.prog 7 #[ptr g 0, s.V, b.V o p, ch.V, k.V] W fun e w' => e = .returned (.int .i64 1) ∧ VS c w w' g { x with n := x.n + 1 } hs xs ∧ VC x g W w' := by
 refine (commit_arg h.vt hi ⟨hn.1, by omega⟩ h.at_ (fun W1 hv1 ha1 => ?_)).mono ?_
 ·rcases hd with hd | ⟨hd, h1, h2⟩
  ·exact lead_no hv1 ha1 h.made.ok hap hd
  ·exact lead_ix hv1 ha1 h.made.ok hap hd h1 h2
 ·rintro e w' ⟨rfl, hv, hc⟩
  have hvc : VC x g W w' := vc_g hc
  exact ⟨rfl, ⟨h.below hvc, hv, h.farB hvc h.at_, h.ow.chg hc (fun k hk e => h.ow.ty h.vt (show eG.e ≠ _ from by decide) (e ▸ hk)), h.lo, h.made, h.lg⟩, hvc⟩
theorem VS.commit (h : VS c w W g x hs xs) {s : Sp} {b : Bk} {o p : Option Addr} {ch : Cg} {k : Yk} (hi : s.b.ix = x.s.b.ix) (hn : 0 ≤ x.n ∧ x.n < 1000) (hl : hs.length < 200) (hb : BAt W b o p) (hap : applyB x.s.b ch = (b, 0)) : Calls Tryz.prog 7 #[ptr g 0, s.V, b.V o p, ch.V, k.V] W fun e w' => e = .returned (.int .i64 0) ∧ ∃ v', VS c w w' g ⟨⟨b, o, p, k, x.s.t⟩, v', x.n + 1, x.m⟩ (hs ++ [ch]) (xs ++ [ch]) ∧ VC x g W w' ∧ Lies W x.v v' := by
 have hlen := h.len
 refine (commit_ok h.vt hi ⟨hn.1, by omega⟩ h.at_ hb h.ow h.bel.size (by omega) (fun W1 hv1 ha1 hb1 => lead_ok hv1 ha1 h.made.ok hap rfl rfl hb1)).mono ?_
 rintro e w' ⟨v', rfl, hv, ho, hvc, hli⟩
 obtain ⟨hm, _⟩ := h.made.step h.rise (by omega) hap
 refine ⟨rfl, v', ⟨h.below hvc, hv, h.farB hvc hb, ho, h.lo, hm, ?_⟩, hvc, hli⟩
 obtain ⟨j, hj, rfl⟩ := h.lg
 exact ⟨j, by rw [List.length_append]; omega, by rw [List.drop_append_of_le_length hj]⟩
theorem VS.since (h : VS c w W g x hs xs) (hl : hs.length ≤ 200) (n : Int) : Calls Tryz.prog 9 #[ptr g 0, .int .i64 n] W fun e w' => ∃ v', e = .returned v' ∧ Sh.Own eG w' W.heap.size v' (since xs n) ∧ Below W.heap.size W w' := since_any h.vt h.ow h.rises (by have := h.len; omega)
theorem VS.forget (h : VS c w W g x hs xs) (hl : hs.length ≤ 200) (n : Int) : Calls Tryz.prog 10 #[ptr g 0, .int .i64 n] W fun e w' => e = .returned (.int .i64 (upto xs n : Int)) ∧ ∃ v', VS c w w' g { x with v := v' } hs (Go.Proofs.YtplapoenhohliaaGreat.since xs n) ∧ VC x g W w' ∧ v'.ownBlock = x.v.ownBlock := by
 refine (forget_any h.vt h.ow h.rises (by have := h.len; omega)).mono ?_
 rintro e w' ⟨v', rfl, hv, ho, hc, hob⟩
 have hvc : VC x g W w' := vc_g hc
 refine ⟨rfl, v', ⟨h.below hvc, hv, h.farB hvc h.at_, ho, h.lo, h.made, ?_⟩, hvc, hob⟩
 obtain ⟨j, hj, rfl⟩ := h.lg
 have := upto_le (hs.drop j) n
 rw [List.length_drop] at this
 exact ⟨j + upto (hs.drop j) n, by omega, by unfold Go.Proofs.YtplapoenhohliaaGreat.since; rw [List.drop_drop]⟩
end
theorem VS.new {c : Cfg} (h : okc c = true) {w W : World} (hw : Below w.heap.size w W) : Calls Tryz.prog 5 #[c.V] W fun e w' => ∃ g, e = .returned (ptr g 0) ∧ VS c w w' g (newV c) [] [] ∧ Below W.heap.size W w' := by
 refine (vnew_ok c W h).mono ?_
 rintro e w' ⟨g, rfl, hg, hv, hb⟩
 have hn : newB c = newBk c (c.get 1).toNat := if_pos h
 exact ⟨g, rfl, ⟨hw.trans (hb.mono hw.size), hv, by show BAt w' (newB c) none none; rw [hn]; exact newBk_at w' c _ h, Sh.OwO.nil eG w' _, Nat.le_trans hw.size hg, Mk.new c, ⟨0, Nat.zero_le _, rfl⟩⟩, hb⟩
end Go.Proofs.YtplapoenhohliaaGreat
namespace Go.Proofs.YtplapoenhohliaaGreat
open Go.RowKit Go.Lib
set_option linter.unusedVariables false
set_option linter.unusedSimpArgs false
theorem flds44 : ∃ fs : Array Field, Tryz.prog.underlying 44 = some (.struct fs) ∧ (∃ f, fs[0]? = some f ∧ f.type = 37 ∧ f.offset = 0) ∧ (∃ f, fs[1]? = some f ∧ f.type = 42 ∧ f.offset = 29) ∧ (∃ f, fs[2]? = some f ∧ f.type = 3 ∧ f.offset = 50) := by
 refine ⟨_, Tryz.underlying44, ⟨_, rfl, rfl, rfl⟩, ⟨_, rfl, rfl, rfl⟩, ⟨_, rfl, rfl, rfl⟩⟩
theorem isAgg_row {ty : TypeId} {d : TypeDesc} (hu : Tryz.prog.underlying ty = some d) (hd : d.isRow = true) (w : World) : (isAgg ty).run Tryz.prog w = .ok true w := by
 unfold isAgg
 rw [Sem.run_bind, run_underlying hu w]
 cases d <;> simp_all
theorem isAgg_int (w : World) : (isAgg 3).run Tryz.prog w = .ok false w := by
 unfold isAgg
 rw [Sem.run_bind, run_underlying Tryz.underlying3 w]
 rfl
theorem run_field_bk (s : Sp) (w : World) : (Instr.field 44 s.V 0).run Tryz.prog w = .ok (s.b.V s.o s.p) w := by
 obtain ⟨fs, hu, ⟨f, h0, h1, h2⟩, _⟩ := flds44
 have hs : (sizeOf 37).run Tryz.prog w = .ok 29 w := by
  have h := size37l s.b s.o s.p
  rw [Array.length_toList, s.b.size] at h
  cases hq : Tryz.prog.info? 37 with
  | none => rw [hq] at h; cases h
  | some i =>
   rw [hq] at h
   have hi : i.size = 29 := by simpa using h
   simp [sizeOf, typeInfo, hq, hi]
 have hx : s.cells.extract 0 29 = s.b.cells s.o s.p := by
  apply Array.ext'
  have h29 : (s.b.cells s.o s.p).toList.length = 29 := by rw [Array.length_toList]; exact s.b.size s.o s.p
  simp only [Sp.cells, Sp.list, List.extract_toArray, List.toList_toArray]
  rw [List.extract_eq_take_drop]
  simp only [List.drop_zero, Nat.sub_zero]
  rw [List.take_append_of_le_length (by omega), List.take_of_length_le (by omega)]
 unfold Instr.field
 simp only [Sem.run_bind, run_underlying hu, Result.andThen_ok, h0, h1, h2]
 simp [part, isAgg_row Tryz.underlying37 rfl, hs, asAgg, hx]
theorem run_field_now (s : Sp) (w : World) : (Instr.field 44 s.V 2).run Tryz.prog w = .ok (.int .i64 s.t) w := by
 obtain ⟨fs, hu, _, _, ⟨f, h0, h1, h2⟩⟩ := flds44
 have hx : s.cells[50]? = some (.int .i64 s.t) := by
  have h29 : (s.b.cells s.o s.p).toList.length = 29 := by rw [Array.length_toList]; exact s.b.size s.o s.p
  have h21 : s.k.cs.toList.length = 21 := by rw [Array.length_toList]; exact s.k.sz
  simp only [Sp.cells, Sp.list, List.getElem?_toArray]
  rw [List.getElem?_append_right (by omega), h29, List.getElem?_append_right (by omega), h21]
  rfl
 unfold Instr.field
 simp only [Sem.run_bind, run_underlying hu, Result.andThen_ok, h0, h1, h2]
 simp [part, isAgg_int, asAgg, hx]
section
variable {ops : Array Oper} {rest : List Oper} {o : Oper} {a : Act} {w : World} {Q : Exit → Act → World → Prop}
theorem wpList_field_bk (x : Tmp) (ho : o.op = .field 44 (.tmp x) 0) (hgd : Region.wanted o (yielded ops a.tmps) = true) {s : Sp} (e : a.eval (.tmp x) = s.V) (k : wpList Tryz.prog ops Q rest (a.put o.dst (s.b.V s.o s.p)) w) : wpList Tryz.prog ops Q (o :: rest) a w := by
 obtain ⟨dd, op, t, pos, af, gd⟩ := o
 subst ho
 refine wpList_run hgd _ ?_ k
 unfold execOp
 simp only [e, Sem.run_bind, run_field_bk, Result.andThen_ok, Sem.run_pure]
theorem wpList_field_now (x : Tmp) (ho : o.op = .field 44 (.tmp x) 2) (hgd : Region.wanted o (yielded ops a.tmps) = true) {s : Sp} (e : a.eval (.tmp x) = s.V) (k : wpList Tryz.prog ops Q rest (a.put o.dst (.int .i64 s.t)) w) : wpList Tryz.prog ops Q (o :: rest) a w := by
 obtain ⟨dd, op, t, pos, af, gd⟩ := o
 subst ho
 refine wpList_run hgd _ ?_ k
 unfold execOp
 simp only [e, Sem.run_bind, run_field_now, Result.andThen_ok, Sem.run_pure]
end
end Go.Proofs.YtplapoenhohliaaGreat
namespace Go.Proofs.YtplapoenhohliaaGreat
open Go.RowKit Go.Lib
set_option linter.unusedVariables false
set_option linter.unusedSimpArgs false
def kW : K := ⟨0, 1, 1, 0, 0, 0, 0, 0⟩
def cgA : Cg := ⟨1, ⟨1, 1, 1, 0, 0, 1, 3, 0⟩, 0, 0⟩
def bA : Bk := withB bk0 cgA
theorem evA : placeB bk0 kW 3 0 = (bA, cgA, 0) := by kernel_rfl
theorem evB : applyB bk0 cgA = (bA, 0) := by kernel_rfl
theorem evI' : bA.ix = 1 := by kernel_rfl
theorem evO : bk0.ix = 0 := by kernel_rfl
theorem okS : okc small = true := by kernel_rfl
theorem okZ : okc zc = false := by kernel_rfl
theorem evS : since [cgA] 0 = [cgA] := by kernel_rfl
theorem evU : upto [cgA] 1 = 1 := by kernel_rfl
def sA0 : Sp := ⟨bk0, none, none, mkY small, 0⟩
theorem newV_small : newV small = ⟨sA0, .slice none 0 0, 0, 0⟩ := by unfold newV; rw [ev0]; rfl
theorem wpList_build_kW {ops : Array Oper} {rest : List Oper} {o : Oper} {a : Act} {w : World} {Q : Exit → Act → World → Prop} (ho : o.op = .build 46 #[(1, .const (.int .i64 1)), (2, .const (.int .i64 1))]) (hgd : o.guard = none) (k : wpList Tryz.prog ops Q rest (a.put o.dst kW.V) w) : wpList Tryz.prog ops Q (o :: rest) a w :=
 wpList_build_as hgd 46 _ ho kW.cells (by kernel_rfl) k
theorem wpList_build_zcG {ops : Array Oper} {rest : List Oper} {o : Oper} {a : Act} {w : World} {Q : Exit → Act → World → Prop} (ho : o.op = .build 24 #[]) (hgd : Region.wanted o (yielded ops a.tmps) = true) (k : wpList Tryz.prog ops Q rest (a.put o.dst zc.V) w) : wpList Tryz.prog ops Q (o :: rest) a w := by
 obtain ⟨dd, op, t, pos, af, gd⟩ := o
 subst ho
 refine wpList_run hgd _ ?_ k
 have hf : Tryz.prog.built 24 ((#[] : Array (Nat × Operand)).map fun (i, u) => (i, a.eval u)).toList = some zc.cells := by kernel_rfl
 unfold execOp
 simp only [Sem.run_bind, run_build w 24 _ _ hf, Result.andThen_ok, Sem.run_pure]
set_option maxRecDepth 100000 in
set_option maxHeartbeats 4000000 in
theorem awake_any (w : World) : Calls Tryz.prog 4 #[] w (Yes w true) := by
 go_enter Tryz.func4, Tryz.ntmps4
 go_upto_region 2 with (first | (go_at_call 23; (with_reducible refine (small_any _).mono ?_); rintro e va ⟨rfl, hba⟩) | (go_at_call 5; (with_reducible refine (VS.new okS hba).mono ?_); rintro e v0 ⟨g, rfl, hv0, hb0⟩))
 rw [newV_small] at hv0
 have HV := Lib.hid hv0
 clear hv0 hb0 hba
 have CR := Lib.hid HV.out.read
 go_upto_region 3 with (first | (go_at_call 12; (with_reducible refine CR.out.mono ?_); rintro e v1 ⟨rfl, hb1⟩) | ((with_reducible apply wpList_store_spnew (c := sA0)); exact rfl; exact rfl; exact rfl; exact rfl))
 have b2 : Below v0.heap.size v0 (v1.alloc (.cells sA0.cells 44)) := hb1.trans ((below_new v1 _).mono hb1.size)
 have HS : Hid (SpAt (v1.alloc (.cells sA0.cells 44)) v1.heap.size sA0) := Lib.hid (At.new _ _ _)
 have HV1 := Lib.hid (HV.out.step b2)
 obtain ⟨W1, hW⟩ : ∃ W1, v1.alloc (.cells sA0.cells 44) = W1 := ⟨_, rfl⟩
 rw [hW] at HS HV1 ⊢
 clear hW b2 hb1 CR HV
 generalize v1.heap.size = qs at *
 have HSR := Lib.hid (Sp.bk (SpAt.rng HS.out))
 have CC := Lib.hid (by have h := placeBk_any (x := kW) (n := 3) (m := 0) HV1.out.at_ HV1.out.made.ok; rw [show (⟨sA0, .slice none 0 0, 0, 0⟩ : Vt).s.b = bk0 from rfl, evA] at h; exact h : Calls Tryz.prog 14 #[sA0.b.V sA0.o sA0.p, kW.V, .int .i64 3, .int .i64 0] W1 (B3 W1 (bA, cgA, 0)))
 go_upto_region 4 with (first | ((with_reducible apply wpList_load_bkm (b := sA0.b) (s := sA0.o) (t := sA0.p) (h := HSR.out)); exact rfl; exact rfl; exact rfl) | ((with_reducible apply wpList_build_kW); exact rfl; exact rfl) | (go_at_call 14; (with_reducible refine CC.out.mono ?_); rintro e v2 ⟨o1, p1, rfl, ha1, hb2⟩; have HQ : Hid (BkAt ((v2.alloc (.cells Z29 37)).alloc (.cells Z11 48)) v2.heap.size zb none none) := Lib.hid (new2 v2 Z29 Z11 37 48).2.1; have HR : Hid (CgAt (((v2.alloc (.cells Z29 37)).alloc (.cells Z11 48)).setRow v2.heap.size (bA.cells o1 p1)) (v2.heap.size + 1) zg) := Lib.hid (At.farRow (new2 v2 Z29 Z11 37 48).2.2 (by omega))) | ((with_reducible apply wpList_store_bk (b := bA) (s := o1) (t := p1) (hq := HQ.out)); exact rfl; exact rfl; exact rfl; exact rfl) | ((with_reducible apply wpList_store_cg (c := cgA) (hq := HR.out)); exact rfl; exact rfl; exact rfl; exact rfl))
 obtain ⟨bm2, hbk2, hcg2⟩ := made2 v2 bA o1 p1 cgA
 have hs2 := hb2.trans (bm2.mono hb2.size)
 have HV2 := Lib.hid (HV1.out.step hs2); have HS2 := Lib.hid (HS.out.step hs2)
 have HA2 := Lib.hid (BAt.step ha1 bm2)
 obtain ⟨W2, hW⟩ : ∃ W2, ((((v2.alloc (.cells Z29 37)).alloc (.cells Z11 48)).setRow v2.heap.size (bA.cells o1 p1)).setRow (v2.heap.size + 1) cgA.cells) = W2 := ⟨_, rfl⟩
 rw [hW] at hbk2 hcg2 HV2 HS2 HA2 ⊢
 clear hW HQ HR CC HSR HS HV1 ha1 hb2 bm2 hs2
 have HB2 : Hid (BkAt W2 v2.heap.size bA o1 p1) := Lib.hid hbk2
 have HC2 : Hid (CgAt W2 (v2.heap.size + 1) cgA) := Lib.hid hcg2
 clear hbk2 hcg2
 generalize v2.heap.size + 1 = qc at *
 generalize v2.heap.size = qb at *
 have HSR := Lib.hid (SpAt.rng HS2.out)
 have HKR : Hid (W2.rangeAt qs 29 sA0.k.cs.toList) := Lib.hid (by have h := Sp.ky (SpAt.rng HS2.out); rwa [Nat.zero_add] at h)
 have CC := Lib.hid (HV2.out.commit (s := sA0) (k := sA0.k) rfl ⟨by decide, by decide⟩ (by decide) HA2.out evB)
 go_upto_region 5 with (first | ((with_reducible apply wpList_load_spm (c := sA0) (h := HSR.out)); exact rfl; exact rfl; exact rfl) | ((with_reducible apply wpList_load_bk (h := HB2.out)); exact rfl; exact rfl; exact rfl) | ((with_reducible apply wpList_load_cg (h := HC2.out)); exact rfl; exact rfl; exact rfl) | ((with_reducible apply wpList_load_ykm (c := sA0.k) (h := HKR.out)); exact rfl; exact rfl; exact rfl) | (go_at_call 7; (with_reducible refine CC.out.mono ?_); rintro e W3 ⟨rfl, v3, hv3, hc3, hl3⟩))
 have HV3 : Hid (VS small w W3 g ⟨⟨bA, o1, p1, mkY small, 0⟩, v3, 1, 0⟩ [cgA] [cgA]) := Lib.hid hv3
 have HS3 := Lib.hid (HV2.out.far hc3 HS2.out (by decide) (by decide))
 have HB3 := Lib.hid (HV2.out.far hc3 HB2.out (by decide) (by decide))
 have HC3 : Hid (CgAt W3 qc cgA) := Lib.hid (HV2.out.farC hc3 HC2.out (by intro h; cases h))
 clear hv3 hc3 hl3 CC HSR HKR HV2 HS2 HB2 HC2 HA2
 have HSR := Lib.hid (SpAt.rng HS3.out)
 have HKR : Hid (W3.rangeAt qs 29 sA0.k.cs.toList) := Lib.hid (by have h := Sp.ky (SpAt.rng HS3.out); rwa [Nat.zero_add] at h)
 have CC := Lib.hid (HV3.out.stale (s := sA0) (b := bA) (o := o1) (p := p1) (ch := cgA) (k := sA0.k) (by rw [show sA0.b.ix = 0 from evO]; show ¬ (0 = bA.ix); rw [evI']; decide) ⟨show (0 : Int) ≤ 1 by decide, show (1 : Int) < 1000 by decide⟩ ⟨show (0 : Int) ≤ 0 by decide, show (0 : Int) < 1000 by decide⟩)
 go_upto_region 6 with (first | ((with_reducible apply wpList_load_spm (c := sA0) (h := HSR.out)); exact rfl; exact rfl; exact rfl) | ((with_reducible apply wpList_load_bk (h := HB3.out)); exact rfl; exact rfl; exact rfl) | ((with_reducible apply wpList_load_cg (h := HC3.out)); exact rfl; exact rfl; exact rfl) | ((with_reducible apply wpList_load_ykm (c := sA0.k) (h := HKR.out)); exact rfl; exact rfl; exact rfl) | (go_at_call 7; (with_reducible refine CC.out.mono ?_); rintro e W4 ⟨rfl, hv4, hc4⟩))
 have HV4 : Hid (VS small w W4 g ⟨⟨bA, o1, p1, mkY small, 0⟩, v3, 2, 1⟩ [cgA] [cgA]) := Lib.hid hv4
 clear hv4 hc4 CC HSR HKR HV3 HS3 HB3 HC3
 have CT : Hid (Calls Tryz.prog 22 #[ptr g 0] W4 fun e w' => e = .returned (.tuple #[.int .i64 2, .int .i64 1]) ∧ Below W4.heap.size W4 w') := Lib.hid HV4.out.tries
 go_upto_region 7 with (go_at_call 22; (with_reducible refine CT.out.mono ?_); rintro e W5 ⟨rfl, hb5⟩)
 have HV5 := Lib.hid (HV4.out.step hb5)
 clear HV4 CT hb5
 go_wp2_with (first
  | (go_at_call 10; (with_reducible refine (CF.out).mono ?_); rintro e W12 ⟨rfl, v12, hv12, hc12, ho12⟩; have HV12 := Lib.hid hv12)
  | (go_at_call 12; (with_reducible refine (HV10.out.read).mono ?_); rintro e W11 ⟨rfl, hb11⟩; have HV11 := Lib.hid (HV10.out.step hb11); have CF : Hid (Calls Tryz.prog 10 #[ptr g 0, .int .i64 1] W11 fun e w' => e = .returned (.int .i64 1) ∧ ∃ v', VS small w w' g ⟨⟨bA, o1, p1, mkY small, 1⟩, v', 2, 1⟩ [cgA] (since [cgA] 1) ∧ VC ⟨⟨bA, o1, p1, mkY small, 1⟩, v3, 2, 1⟩ g W11 w' ∧ v'.ownBlock = v3.ownBlock) := Lib.hid (by have h := HV11.out.forget (by decide) 1; rw [evU] at h; exact h))
  | (go_at_call 8; (with_reducible refine (HV9.out.tick (show (0 : Int) ≤ 0 by decide) (show (0 : Int) < 1000 by decide)).mono ?_); rintro e W10 ⟨rfl, hv10, hc10⟩; have HV10 : Hid (VS small w W10 g ⟨⟨bA, o1, p1, mkY small, 1⟩, v3, 2, 1⟩ [cgA] [cgA]) := Lib.hid hv10)
  | (go_at_call 11; (with_reducible refine (CK.out).mono ?_); rintro e W9 ⟨rfl, hb9⟩; have HV9 := Lib.hid (HV8.out.step hb9))
  | (go_at_call 9; (with_reducible refine (CS.out).mono ?_); rintro e W8 ⟨O8, c8, rfl, hb8⟩; have HV8 := Lib.hid (HV7.out.step hb8); have CK : Hid (Calls Tryz.prog 11 #[ptr g 0] W8 fun e w' => e = .returned (.int .i64 1) ∧ Below W8.heap.size W8 w') := Lib.hid HV8.out.kept)
  | (go_at_call 20; (with_reducible refine (CI.out).mono ?_); rintro e W7 ⟨rfl, hb7⟩; have HV7 := Lib.hid (HV6.out.step hb7); have CS : Hid (Calls Tryz.prog 9 #[ptr g 0, .int .i64 0] W7 fun e w' => ∃ O c, e = .returned (.slice O 1 c) ∧ Below W7.heap.size W7 w') := Lib.hid ((HV7.out.since (by decide) 0).mono (fun e w' h => by obtain ⟨v', rfl, h1, h2⟩ := h; rw [evS] at h1; obtain ⟨O, c, rfl, _⟩ := h1.owO.form; exact ⟨O, c, rfl, h2⟩)))
  | (go_at_call 12; (with_reducible refine (HV5.out.read).mono ?_); rintro e W6 ⟨rfl, hb6⟩; have HV6 := Lib.hid (HV5.out.step hb6); have CI : Hid (Calls Tryz.prog 20 #[bA.V o1 p1] W6 (Num W6 1)) := Lib.hid (by have h := index_any bA o1 p1 W6; rwa [evI'] at h))
  | ((with_reducible apply wpList_field_bk (s := ⟨bA, o1, p1, mkY small, 0⟩)); exact rfl; exact rfl; exact rfl)
  | ((with_reducible apply wpList_field_now (s := ⟨bA, o1, p1, mkY small, 1⟩)); exact rfl; exact rfl; exact rfl)
  | ((with_reducible apply wpList_build_zcG); exact rfl; exact rfl)
  | (go_at_call 5; (with_reducible refine (vnew_no zc _ okZ).mono ?_); rintro e W13 ⟨rfl, hb13⟩))
 go_ret
 exact ⟨rfl, HV12.out.bel.trans (hb13.mono HV12.out.bel.size)⟩
end Go.Proofs.YtplapoenhohliaaGreat
