import Derived.Test.YtplapoenhohliaaGreatVuF
import Derived.Deep.CutBlock
import Derived.Test.YtplapoenhohliaaGreatOrder7
namespace Go.Proofs.YtplapoenhohliaaGreat
open Go.RowKit Go.Lib
set_option linter.unusedVariables false
set_option linter.unusedSimpArgs false
set_option maxHeartbeats 400000 in
theorem since_nil (n : Int) (w : World) : Calls Tryz.prog 9 #[.pointer none, .int .i64 n] w fun e w' => e = .returned (.slice none 0 0) ∧ Below w.heap.size w w' := by
 go_enter Tryz.func9, Tryz.ntmps9
 go_wp2
 go_ret
 exact ⟨rfl, Below.refl _ _⟩
set_option maxHeartbeats 400000 in
theorem forget_nil (n : Int) (w : World) : Calls Tryz.prog 10 #[.pointer none, .int .i64 n] w fun e w' => e = .returned (.int .i64 0) ∧ Below w.heap.size w w' := by
 go_enter Tryz.func10, Tryz.ntmps10
 go_wp2
 go_ret
 exact ⟨rfl, Below.refl _ _⟩
section
variable {ops : Array Oper} {rest : List Oper} {o : Oper} {a : Act} {w : World} {Q : Exit → Act → World → Prop}
theorem wpList_build_zsG2 (ho : o.op = .build 44 #[]) (hgd : Region.wanted o (yielded ops a.tmps) = true) (k : wpList Tryz.prog ops Q rest (a.put o.dst zs.V) w) : wpList Tryz.prog ops Q (o :: rest) a w := by
 obtain ⟨dd, op, t, pos, af, gd⟩ := o
 subst ho
 refine wpList_run hgd _ ?_ k
 have hf : Tryz.prog.built 44 ((#[] : Array (Nat × Operand)).map fun (i, u) => (i, a.eval u)).toList = some zs.cells := by kernel_rfl
 unfold execOp
 simp only [Sem.run_bind, run_build w 44 _ _ hf, Result.andThen_ok, Sem.run_pure]
theorem wpList_build_zbG2 (ho : o.op = .build 37 #[]) (hgd : Region.wanted o (yielded ops a.tmps) = true) (k : wpList Tryz.prog ops Q rest (a.put o.dst (zb.V none none)) w) : wpList Tryz.prog ops Q (o :: rest) a w := by
 obtain ⟨dd, op, t, pos, af, gd⟩ := o
 subst ho
 refine wpList_run hgd _ ?_ k
 have hf : Tryz.prog.built 37 ((#[] : Array (Nat × Operand)).map fun (i, u) => (i, a.eval u)).toList = some (zb.cells none none) := by kernel_rfl
 unfold execOp
 simp only [Sem.run_bind, run_build w 37 _ _ hf, Result.andThen_ok, Sem.run_pure]
theorem wpList_build_zgG2 (ho : o.op = .build 48 #[]) (hgd : Region.wanted o (yielded ops a.tmps) = true) (k : wpList Tryz.prog ops Q rest (a.put o.dst zg.V) w) : wpList Tryz.prog ops Q (o :: rest) a w := by
 obtain ⟨dd, op, t, pos, af, gd⟩ := o
 subst ho
 refine wpList_run hgd _ ?_ k
 have hf : Tryz.prog.built 48 ((#[] : Array (Nat × Operand)).map fun (i, u) => (i, a.eval u)).toList = some zg.cells := by kernel_rfl
 unfold execOp
 simp only [Sem.run_bind, run_build w 48 _ _ hf, Result.andThen_ok, Sem.run_pure]
theorem wpList_build_zyG2 (ho : o.op = .build 42 #[]) (hgd : Region.wanted o (yielded ops a.tmps) = true) (k : wpList Tryz.prog ops Q rest (a.put o.dst zy.V) w) : wpList Tryz.prog ops Q (o :: rest) a w := by
 obtain ⟨dd, op, t, pos, af, gd⟩ := o
 subst ho
 refine wpList_run hgd _ ?_ k
 have hf : Tryz.prog.built 42 ((#[] : Array (Nat × Operand)).map fun (i, u) => (i, a.eval u)).toList = some zy.cs := by kernel_rfl
 unfold execOp
 simp only [Sem.run_bind, run_build w 42 _ _ hf, Result.andThen_ok, Sem.run_pure]
theorem wpList_build_3 (x y z : Tmp) (ho : o.op = .build 56 #[(0, .tmp x), (1, .tmp y), (2, .tmp z)]) (hgd : o.guard = none) {s : Sp} (e1 : a.eval (.tmp x) = s.V) (e2 : a.eval (.tmp y) = s.V) (e3 : a.eval (.tmp z) = s.V) (k : wpList Tryz.prog ops Q rest (a.put o.dst (.agg (snaps3 s))) w) : wpList Tryz.prog ops Q (o :: rest) a w := by
 refine wpList_build_as hgd 56 _ ho (snaps3 s) ?_ k
 simp only [List.map_toArray, List.map_cons, List.map_nil, e1, e2, e3]
 clear e1 e2 e3 k ho hgd
 obtain ⟨⟨⟨n, s, hl⟩, ix, lv, dn, rm, m, ml⟩, o, p, ⟨⟨cs⟩, sz, one⟩, t⟩ := s
 have sz' : cs.length = 21 := sz
 match n, hl, m, ml, cs, sz' with
 | [a0, a1, a2, a3, a4, a5, a6, a7, a8, a9, a10, a11, a12, a13, a14, a15, a16], _, [m0, m1, m2, m3], _, [k0, k1, k2, k3, k4, k5, k6, k7, k8, k9, k10, k11, k12, k13, k14, k15, k16, k17, k18, k19, k20], _ => show _ = _; kernel_rfl
theorem wpList_store_3 (x y : Tmp) (ho : o.op = .store 56 (.tmp x) (.tmp y)) (hgd : o.guard = none) {s : Sp} (e1 : a.eval (.tmp x) = ptr w.heap.size 0) (e2 : a.eval (.tmp y) = .agg (snaps3 s))
  (k : wpList Tryz.prog ops Q rest (a.put o.dst undef) (w.alloc (.cells (snaps3 s) 56))) : wpList Tryz.prog ops Q (o :: rest) a (w.alloc (.cells Tryz.zeroCells56 56)) := by
 refine wpList_store_row hgd 56 (.tmp x) (.tmp y) ho w.heap.size (snaps3 s) e1 e2 56 Tryz.zeroCells56 (At.new w 56 _) (size56 s) (by rw [snaps3_size]; kernel_rfl) (snaps3_one s) ?_
 rw [World.setRow_alloc_new]
 exact k
end
set_option maxRecDepth 100000 in
set_option maxHeartbeats 16000000 in
theorem exact_no (c : Cfg) (A : Option Addr) (cap : Nat) (ds : List Dd) (w : World) (hc : okc c = false) (hA : DdsAt w w.heap.size A ds) (hl : ds.length ≤ maxLen) : Calls Tryz.prog 3 #[c.V, .slice A ds.length cap] w (Yes w true) := by
 have H := Lib.hid (new1 w c.cells 24)
 have HA := Lib.hid hA; clear hA
 have HL : Hid (ds.length ≤ 9223372036854775807) := Lib.hid (by unfold maxLen at hl; omega)
 clear hl
 obtain ⟨N, hN⟩ : ∃ N, ds.length = N := ⟨_, rfl⟩
 rw [hN] at HL ⊢
 have HN := Lib.hid hN; clear hN
 have CA := Lib.hid awake_any
 have CN := Lib.hid (fun W => vnew_no c W hc)
 have CG := Lib.hid (fun W => by have h := good_any c W; rw [hc] at h; exact h : ∀ W, Calls Tryz.prog 6 #[c.V] W fun e w' => e = .returned (.bool false) ∧ Below W.heap.size W w')
 clear hc
 go_enter Tryz.func3, Tryz.ntmps3
 go_upto_region 1 with fail
 obtain ⟨W, hW⟩ : ∃ W, w.alloc (.cells c.cells 24) = W := ⟨_, rfl⟩
 rw [hW] at H ⊢; clear hW
 go_upto_region 3 with (go_at_call 4; (with_reducible refine (CA.out _).mono ?_); rintro e W1 ⟨rfl, hb1⟩)
 have HC : Hid (CAt W1 w.heap.size c) := Lib.hid (At.step H.out.2 hb1)
 have HB := Lib.hid (H.out.1.trans (hb1.mono H.out.1.size)); clear H CA hb1
 go_upto_region 4 with (first | ((with_reducible apply wpList_load_cat (h := HC.out)); exact rfl; exact rfl; exact rfl) | (go_at_call 5; (with_reducible refine (CN.out _).mono ?_); rintro e v0 ⟨rfl, hb0⟩))
 have HC0 := Lib.hid (At.step HC.out hb0); have HB0 := Lib.hid (HB.out.trans (hb0.mono HB.out.size)); clear HC HB hb0 CN
 go_upto_region 5 with (first | ((with_reducible apply wpList_load_cat (h := HC0.out)); exact rfl; exact rfl; exact rfl) | (go_at_call 6; (with_reducible refine (CG.out _).mono ?_); rintro e v1 ⟨rfl, hb1⟩))
 have HB1 := Lib.hid (HB0.out.trans (hb1.mono HB0.out.size)); clear HC0 HB0 hb1 CG
 go_wp2_with (first | ((with_reducible apply wpList_build_zsG2); exact rfl; exact rfl) | ((with_reducible apply wpList_build_zbG2); exact rfl; exact rfl) | ((with_reducible apply wpList_build_zgG2); exact rfl; exact rfl) | ((with_reducible apply wpList_build_zyG2); exact rfl; exact rfl) | (go_at_call 7; (with_reducible refine (commit_nil zs zb none none zg zy _).mono ?_); rintro e V1 ⟨rfl, hc1⟩) | (go_at_call 8; (with_reducible refine (tick_nil _).mono ?_); rintro e V2 ⟨rfl, hc2⟩) | (go_at_call 9; (with_reducible refine (since_nil 0 _).mono ?_); rintro e V3 ⟨rfl, hc3⟩) | (go_at_call 10; (with_reducible refine (forget_nil 5 _).mono ?_); rintro e V4 ⟨rfl, hc4⟩) | (go_at_call 11; (with_reducible refine (kept_nil _).mono ?_); rintro e V5 ⟨rfl, hc5⟩) | (go_at_call 12; (with_reducible refine (vread_nil _).mono ?_); rintro e V6 ⟨rfl, hc6⟩) | ((with_reducible apply wpList_field_now (s := zs)); exact rfl; exact rfl; exact rfl))
 go_ret
 refine ⟨rfl, ?_⟩
 subst hc2; subst hc5
 have b1 := HB1.out.trans (hc1.mono HB1.out.size)
 have b2 := b1.trans (hc3.mono b1.size)
 have b3 := b2.trans (hc4.mono b2.size)
 exact b3.trans (hc6.mono b3.size)
end Go.Proofs.YtplapoenhohliaaGreat
namespace Go.Proofs.YtplapoenhohliaaGreat
open Go.RowKit Go.Lib
set_option linter.unusedVariables false
set_option linter.unusedSimpArgs false
section
variable {c : Cfg} {w W W' : World} {g : Nat} {x x' : Vt} {hs hs' xs xs' : List Cg} {q7 q6 : Nat} {ss : List Sp} {uu uu' : Uv}
theorem XS.ms (h : XS c w W g x hs xs q7 ss q6 uu) : MS c w W g x hs xs q7 ss q6 uu x.s.b hs xs :=
 ⟨h.vs, h.ar, h.old, h.uv, h.ua, h.uo, h.un, h.tie, h.lo6, h.lo7⟩
theorem MS.vc (h : MS c w W g x hs xs q7 ss q6 uu x.s.b hs xs) (hc : VC x g W W') (hv : VS c w W' g x' hs' xs') (hh : hs' = hs ∨ ∃ z, hs' = hs ++ [z]) (hl : Lies W x.v x'.v) : MS c w W' g x' hs' xs' q7 ss q6 uu x.s.b hs xs := by
 have hnc : ∀ {v : Value} {l : List Cg}, Sh.OwO eG W w.heap.size v l → ∀ {k : Nat} {t : TypeId} {cs : Array Value}, At W k t cs → t ≠ 48 → v.ownBlock ≠ some k := fun ho _ _ _ ha ht => ho.ty ha (Ne.symm ht)
 refine ⟨hv, ?_, fun s m => ?_, h.vs.far hc h.uv (by decide) (by decide), h.ua.chgS hc (fun b cs hb e => ?_), h.uo.chg hc (fun k hk e => ?_), fun k hk e => ?_, h.tie, h.lo6, h.lo7⟩
 ·refine h.ar.chg hc (fun e => ?_)
  rcases e with e | e
  ·exact h.ar.ne h.vs.vt (by decide) e.symm
  ·obtain ⟨_, cur, _, ha, _⟩ := h.ar
   exact hnc h.vs.ow ha (by decide) e
 ·have h1 := (h.old s m).chg hc h.vs.off
  rcases hh with rfl | ⟨z, rfl⟩
  ·exact h1
  ·exact h1.more z
 ·rcases e with rfl | e
  ·exact At.ne hb h.vs.vt (by decide) rfl
  ·exact hnc h.vs.ow hb (by decide) e
 ·rcases e with rfl | e
  ·exact h.uo.ty h.vs.vt (show eG.e ≠ _ from by decide) hk
  ·exact h.un k hk e
 ·rcases hl with hl | ⟨j, hl, hj⟩
  ·rw [hl] at e; exact h.un k hk e
  ·rw [hl] at e
   injection e with e
   have := (h.uo.lt hk).2
   omega
theorem MS.tick {b0 : Bk} {hs0 xs0 : List Cg} (h : MS c w W g x hs xs q7 ss q6 uu b0 hs0 xs0) (n : Int) : MS c w (W.setCell ⟨q6, 45, none⟩ (.int .i64 n)) g x hs xs q7 ss q6 { uu with now := n } b0 hs0 xs0 := by
 have hc := chg_setCell W q6 45 (.int .i64 n)
 exact ⟨h.vs.one hc h.uv h.lo6 (by decide) (by decide) (by decide) (by decide), h.ar.chg hc (fun e => h.ar.ne h.uv (by decide) e.symm), fun s m => (h.old s m).chg hc (Off.one h.uv (by decide) (by decide)), UvAt.setT h.uv n, uOff h.uv (by decide) hc h.ua, h.uo.chg hc (fun k hk e => h.uo.ty h.uv (show eG.e ≠ _ from by decide) ((show k = q6 from e) ▸ hk)), h.un, h.tie, h.lo6, h.lo7⟩
theorem MS.clock (h : MS c w W g x hs xs q7 ss q6 uu x.s.b hs xs) (hn : uu.now = x.s.t + 1) (hc : VC x g W W') (hv : VS c w W' g { x with s := { x.s with t := x.s.t + 1 } } hs xs) : XS c w W' g { x with s := { x.s with t := x.s.t + 1 } } hs xs q7 ss q6 uu :=
 (h.vc hc hv (.inl rfl) (Lies.refl _ _)).same rfl rfl hn
theorem MS.keep (h : MS c w W g x hs xs q7 ss q6 uu x.s.b hs xs') (hb : Below W.heap.size W W') {v : Value} (ho : Sh.OwO eG W' W.heap.size v xs) (hn : uu.now = x.s.t) : XS c w (W'.setCell ⟨q6, 46, none⟩ v) g x hs xs q7 ss q6 { uu with v := v } := by
 have h2 := h.step hb
 have hs := chg_setCell W' q6 46 v
 exact h.put ((Chg.ofBelow hb (fun j => j = q6)).trans hs (fun _ _ e => e)) (UvAt.setV h2.uv v) (uOff h2.uv (by decide) hs h2.ua) ((ho.mono h.vs.bel.size).chg hs (fun k hk e => ho.ty h2.uv (show eG.e ≠ _ from by decide) ((show k = q6 from e) ▸ hk))) (fun k hk => (ho.lt hk).1) h.tie hn
end
theorem since_len (xs : List Cg) (n : Int) : ((xs.length : Int) - ((since xs n).length : Int)) = (upto xs n : Int) := by
 have h : upto xs n ≤ xs.length := by unfold upto; exact (List.takeWhile_sublist _).length_le
 unfold since
 rw [List.length_drop]
 omega
def RwG (xs : List Cg) (v : Value) (w : World) : Prop := Sh.Rd eG w v xs
theorem RwG.keep {xs : List Cg} {v : Value} {w w' : World} (h : RwG xs v w) (hb : Below w.heap.size w w') : RwG xs v w' := Sh.Rd.below h hb
end Go.Proofs.YtplapoenhohliaaGreat
namespace Go.Proofs.YtplapoenhohliaaGreat
open Go.RowKit Go.Lib
set_option linter.unusedVariables false
set_option linter.unusedSimpArgs false
structure CO (x : Vt) (hs xs : List Cg) (y : Dd) (s : Sp) (ch : Cg) (f : Int) (x2 : Vt) (hs2 xs2 : List Cg) : Prop where
 t : x2.s.t = x.s.t
 n : x2.n = x.n + 1
 way : (f = 0 ∧ x2.m = x.m ∧ y.kind ≠ 9 ∧ s.b.ix = x.s.b.ix ∧ applyB x.s.b ch = (x2.s.b, 0) ∧ hs2 = hs ++ [ch] ∧ xs2 = xs ++ [ch])
   ∨ (f = 9 ∧ x2.m = x.m + 1 ∧ s.b.ix ≠ x.s.b.ix ∧ x2.s.b = x.s.b ∧ hs2 = hs ∧ xs2 = xs)
   ∨ (f = 1 ∧ x2.m = x.m ∧ y.kind = 9 ∧ s.b.ix = x.s.b.ix ∧ x2.s.b = x.s.b ∧ hs2 = hs ∧ xs2 = xs)
section
variable {c : Cfg} {w W W' : World} {g : Nat} {x x2 : Vt} {hs hs2 xs xs2 : List Cg} {q7 q6 : Nat} {ss : List Sp} {uu : Uv} {q11 q13 q14 q15 : Nat} {y : Dd} {s : Sp} {d : Bk} {o' p' : Option Addr} {ch : Cg} {f : Int}
theorem CO.stale (h : CO x hs xs y s ch f x2 hs2 xs2) : x2.m = if f = 9 then x.m + 1 else x.m := by
 rcases h.way with ⟨rfl, h, _⟩ | ⟨rfl, h, _⟩ | ⟨rfl, h, _⟩
 ·rw [if_neg (by decide)]; exact h
 ·rw [if_pos rfl]; exact h
 ·rw [if_neg (by decide)]; exact h
theorem CO.len (h : CO x hs xs y s ch f x2 hs2 xs2) : hs2.length ≤ hs.length + 1 := by
 rcases h.way with ⟨_, _, _, _, _, rfl, _⟩ | ⟨_, _, _, _, rfl, _⟩ | ⟨_, _, _, _, _, rfl, _⟩
 ·simp
 ·omega
 ·omega
theorem CO.nine (h : CO x hs xs y s ch f x2 hs2 xs2) (hk : y.kind = 9) : f = if s.b.ix = x.s.b.ix then 1 else 9 := by
 rcases h.way with ⟨_, _, h, _⟩ | ⟨rfl, _, h, _⟩ | ⟨rfl, _, _, h, _⟩
 ·exact absurd hk h
 ·rw [if_neg h]
 ·rw [if_pos h]
theorem JS.commit (h : JS c w W g x hs xs q7 ss q6 uu q11 q13 q14 q15 y s d o' p' ch) (hm : s ∈ ss) (hap : y.kind ≠ 9 → applyB s.b ch = (d, 0)) (hni : y.kind = 9 → d = s.b ∧ ch = ⟨y.n, zk, 1, 1⟩) (hn : 0 ≤ x.n ∧ x.n < 1000) (hmm : 0 ≤ x.m ∧ x.m < 1000) (hl : hs.length < 200) :
  Calls Tryz.prog 7 #[ptr g 0, s.V, d.V o' p', ch.V, s.k.V] W fun e W' => ∃ f x2 hs2 xs2, e = .returned (.int .i64 f) ∧ NS c w W' g x2 hs2 xs2 q7 ss q6 uu x.s.b hs xs q11 q13 q15 y s ch ∧ CO x hs xs y s ch f x2 hs2 xs2 := by
 have hold := h.st.old s hm
 by_cases hi : s.b.ix = x.s.b.ix
 ·have hsb : s.b = x.s.b := hold.same h.st.vs.made hi
  by_cases hk : y.kind = 9
  ·obtain ⟨hd, hc⟩ := hni hk
   obtain ⟨rr, hrr⟩ : ∃ rr, applyB x.s.b ch = rr := ⟨_, rfl⟩
   obtain ⟨d9, e9⟩ := rr
   refine (h.st.vs.arg (s := s) (b := d) (o := o') (p := p') (k := s.k) hi hn hrr ?_).mono ?_
   ·by_cases he : e9 = 0
    ·subst he
     have hst := h.st.vs.made.step h.st.vs.rise (by omega) hrr
     exact .inr ⟨rfl, by rw [hst.2.2.2, hd, hsb], by rw [hst.2.1, hd, hsb]; omega⟩
    ·exact .inl he
   ·rintro e W' ⟨rfl, hv, hc2⟩
    exact ⟨1, _, hs, xs, rfl, NS.new h hc2 hv (.inl rfl) (Lies.refl _ _), ⟨rfl, rfl, .inr (.inr ⟨rfl, rfl, hk, hi, rfl, rfl, rfl⟩)⟩⟩
  ·have hap2 : applyB x.s.b ch = (d, 0) := by rw [← hsb]; exact hap hk
   refine (h.st.vs.commit (s := s) (k := s.k) hi hn hl h.bd hap2).mono ?_
   rintro e W' ⟨rfl, v', hv, hc2, hli⟩
   exact ⟨0, _, _, _, rfl, NS.new h hc2 hv (.inr ⟨ch, rfl⟩) hli, ⟨rfl, rfl, .inl ⟨rfl, rfl, hk, hi, hap2, rfl, rfl⟩⟩⟩
 ·refine (h.st.vs.stale (s := s) (b := d) (o := o') (p := p') (ch := ch) (k := s.k) hi hn hmm).mono ?_
  rintro e W' ⟨rfl, hv, hc2⟩
  exact ⟨9, _, hs, xs, rfl, NS.new h hc2 hv (.inl rfl) (Lies.refl _ _), ⟨rfl, rfl, .inr (.inl ⟨rfl, rfl, hi, rfl, rfl, rfl⟩)⟩⟩
theorem NS.rcommit (h : NS c w W g x2 hs2 xs2 q7 ss q6 uu x.s.b hs xs q11 q13 q15 y s ch) (hco : CO x hs xs y s ch f x2 hs2 xs2) (hk : y.kind ≠ 9) (hnow : uu.now = x.s.t) (hl : hs.length ≤ 100) (hxl : xs.length ≤ 1000) (hmade : Mk c x.s.b hs) (hrise : Sh.Plain.Rise x.s.b.live) :
  Calls Tryz.prog 19 #[ptr q6 0, .int .i64 s.b.ix, ch.V, uu.k.V] W fun e W' => e = .returned (.int .i64 f) ∧ ∃ uu2, XS c w W' g x2 hs2 xs2 q7 ss q6 uu2 ∧ SpAt W' q13 s ∧ CgAt W' q15 ch ∧ uu2.k = uu.k := by
 have hix := h.ms.tie.rel.ix
 rcases hco.way with ⟨rfl, _, _, hi, hap, rfl, rfl⟩ | ⟨rfl, _, hi, hb, rfl, rfl⟩ | ⟨_, _, h9, _⟩
 ·have hst := hmade.step hrise (by omega) hap
  have hlen := hmade.len
  have hb := apply_both (x := ch) h.ms.tie hl (by rw [hst.2.2.1, hlen]; constructor <;> omega)
  rw [hap] at hb
  obtain ⟨rr, hrr⟩ : ∃ rr, applyU uu.b ch = rr := ⟨_, rfl⟩
  rw [hrr] at hb
  obtain ⟨b', e'⟩ := rr
  obtain rfl : e' = 0 := hb.snd.symm
  rw [hi, hix]
  refine (rcommit_ok h.ms.uv h.ms.ua (h.ms.tie.uok hl) hrr h.ms.uo h.ms.vs.bel.size h.ms.lo6 hxl).mono ?_
  rintro e W' ⟨rfl, s', t', v', hv, ha, ho, hnew, hc⟩
  exact ⟨rfl, _, h.ms.put hc hv ha ho hnew (by rw [List.length_append]; exact hb.tie rfl) (by rw [hco.t]; exact hnow), At.chg h.sp hc (fun e => At.ne h.sp h.ms.uv (by decide) e), At.chg h.cg hc (fun e => At.ne h.cg h.ms.uv (by decide) e), rfl⟩
 ·refine (rcommit_stale h.ms.uv (by rw [← hix]; exact hi)).mono ?_
  rintro e W' ⟨rfl, hbl⟩
  exact ⟨rfl, uu, (h.ms.step hbl).same hb.symm rfl (by rw [hco.t]; exact hnow), h.sp.step hbl, h.cg.step hbl, rfl⟩
 ·exact absurd h9 hk
structure CJ (c : Cfg) (w : World) (g : Nat) (x2 : Vt) (hs2 xs2 : List Cg) (q7 : Nat) (ss : List Sp) (q6 : Nat) (uu : Uv) (b0 : Bk) (hs xs : List Cg) (q11 q13 q15 : Nat) (y : Dd) (s : Sp) (ch : Cg) (b : Bool) (W : World) : Prop where
 sp : SpAt W q13 s
 cg : CgAt W q15 ch
 lt : q6 < W.heap.size
 ky : W.rangeAt q6 26 uu.k.cs.toList
 no : b = false → NS c w W g x2 hs2 xs2 q7 ss q6 uu b0 hs xs q11 q13 q15 y s ch
 yes : b = true → ∃ uu2, XS c w W g x2 hs2 xs2 q7 ss q6 uu2
theorem CJ.step {b0 : Bk} {b : Bool} (h : CJ c w g x2 hs2 xs2 q7 ss q6 uu b0 hs xs q11 q13 q15 y s ch b W) (hb : Below W.heap.size W W') : CJ c w g x2 hs2 xs2 q7 ss q6 uu b0 hs xs q11 q13 q15 y s ch b W' :=
 ⟨h.sp.step hb, h.cg.step hb, Nat.lt_of_lt_of_le h.lt hb.size, rng_below h.ky h.lt hb, fun e => (h.no e).step hb, fun e => by obtain ⟨u2, hx⟩ := h.yes e; exact ⟨u2, hx.step hb⟩⟩
theorem CJ.pre {b0 : Bk} (h : NS c w W g x2 hs2 xs2 q7 ss q6 uu b0 hs xs q11 q13 q15 y s ch) : CJ c w g x2 hs2 xs2 q7 ss q6 uu b0 hs xs q11 q13 q15 y s ch false W :=
 ⟨h.sp, h.cg, At.lt h.ms.uv, UvAt.ky h.ms.uv, fun _ => h, fun e => by cases e⟩
theorem CJ.post {b0 : Bk} {uu2 : Uv} (h : XS c w W g x2 hs2 xs2 q7 ss q6 uu2) (hs' : SpAt W q13 s) (hc : CgAt W q15 ch) (hk : uu2.k = uu.k) : CJ c w g x2 hs2 xs2 q7 ss q6 uu b0 hs xs q11 q13 q15 y s ch true W :=
 ⟨hs', hc, At.lt h.uv, by have := UvAt.ky h.uv; rwa [hk] at this, (fun e => by cases e), fun _ => ⟨uu2, h⟩⟩
theorem NS.same (h : NS c w W g x2 hs2 xs2 q7 ss q6 uu x.s.b hs xs q11 q13 q15 y s ch) (hco : CO x hs xs y s ch f x2 hs2 xs2) (hk : y.kind = 9) (hnow : uu.now = x.s.t) : XS c w W g x2 hs2 xs2 q7 ss q6 uu := by
 rcases hco.way with ⟨_, _, h9, _⟩ | ⟨rfl, _, hi, hb, rfl, rfl⟩ | ⟨rfl, _, _, hi, hb, rfl, rfl⟩
 ·exact absurd hk h9
 ·exact h.ms.same hb.symm rfl (by rw [hco.t]; exact hnow)
 ·exact h.ms.same hb.symm rfl (by rw [hco.t]; exact hnow)
end
section
variable {ops : Array Oper} {rest : List Oper} {o : Oper} {a : Act} {w : World} {Q : Exit → Act → World → Prop}
theorem built_c9 (n : Int) : Tryz.prog.built 48 [(0, .int .i64 n), (2, .int .i64 1), (3, .int .i64 1)] = some (⟨n, zk, 1, 1⟩ : Cg).cells := by kernel_rfl
theorem wpList_build_c9 (x : Tmp) (ho : o.op = .build 48 #[(0, .tmp x), (2, .const (.int .i64 1)), (3, .const (.int .i64 1))]) (hgd : o.guard = none) {n : Int} (e : a.eval (.tmp x) = .int .i64 n)
  (k : wpList Tryz.prog ops Q rest (a.put o.dst (⟨n, zk, 1, 1⟩ : Cg).V) w) : wpList Tryz.prog ops Q (o :: rest) a w :=
 wpList_build_as hgd 48 _ ho (⟨n, zk, 1, 1⟩ : Cg).cells (by simp only [List.map_toArray, List.map_cons, List.map_nil, e]; exact built_c9 n) k
end
end Go.Proofs.YtplapoenhohliaaGreat
namespace Go.Proofs.YtplapoenhohliaaGreat
open Go.RowKit Go.Lib
set_option linter.unusedVariables false
set_option linter.unusedSimpArgs false
section
variable {c : Cfg} {w W W' : World} {g : Nat} {x : Vt} {hs xs : List Cg} {q7 q6 : Nat} {ss : List Sp} {uu : Uv} {q11 q13 q14 q15 : Nat} {y : Dd} {s : Sp} {d : Bk} {o' p' : Option Addr}
structure FJ (c : Cfg) (w : World) (g : Nat) (x : Vt) (hs xs : List Cg) (q7 : Nat) (ss : List Sp) (q6 : Nat) (uu : Uv) (q11 q13 q14 q15 : Nat) (y : Dd) (s : Sp) (d : Bk) (o' p' : Option Addr) (b : Bool) (W : World) : Prop where
 dd : DdAt W q11 y
 uv : UvAt W q6 uu
 uo : Sh.OwO eG W w.heap.size uu.v xs
 no : b = false → JS c w W g x hs xs q7 ss q6 uu q11 q13 q14 q15 y s d o' p' zg
 yes : b = true → ∃ v', NS c w W g { x with v := v' } hs (since xs y.n) q7 ss q6 uu x.s.b hs xs q11 q13 q15 y s zg
theorem FJ.step {b : Bool} (h : FJ c w g x hs xs q7 ss q6 uu q11 q13 q14 q15 y s d o' p' b W) (hb : Below W.heap.size W W') : FJ c w g x hs xs q7 ss q6 uu q11 q13 q14 q15 y s d o' p' b W' :=
 ⟨h.dd.step hb, h.uv.step hb, h.uo.below hb, fun e => (h.no e).step hb, fun e => by obtain ⟨v', hx⟩ := h.yes e; exact ⟨v', hx.step hb⟩⟩
theorem FJ.pre (h : JS c w W g x hs xs q7 ss q6 uu q11 q13 q14 q15 y s d o' p' zg) : FJ c w g x hs xs q7 ss q6 uu q11 q13 q14 q15 y s d o' p' false W :=
 ⟨h.dd, h.st.uv, h.st.uo, fun _ => h, fun e => by cases e⟩
theorem JS.forget (h : JS c w W g x hs xs q7 ss q6 uu q11 q13 q14 q15 y s d o' p' zg) (hl : hs.length ≤ 200) {U : Nat} (hU : upto xs y.n = U) :
  Calls Tryz.prog 10 #[ptr g 0, .int .i64 y.n] W fun e W' => e = .returned (.int .i64 (U : Int)) ∧ FJ c w g x hs xs q7 ss q6 uu q11 q13 q14 q15 y s d o' p' true W' := by
 refine (h.st.vs.forget hl y.n).mono ?_
 rintro e W' ⟨rfl, v', hv, hc, hob⟩
 have hns := NS.new h hc hv (.inl rfl) (.inl hob)
 exact ⟨by rw [hU], ⟨hns.dd, hns.ms.uv, hns.ms.uo, (fun e => by cases e), fun _ => ⟨v', hns⟩⟩⟩
end
theorem run_fieldb {ρ : Operand → Value} {w : World} {x : Tmp} {s : Sp} {d : Option Tmp} {t : TypeId} {pos : String} {af : Array Edge} {gd : Option (Nat × Bool)} (e : ρ (.tmp x) = s.V) : (execOp ρ { dst := d, op := Op.field 44 (.tmp x) 0, type := t, pos := pos, after := af, guard := gd }).run Tryz.prog w = .ok (.value (s.b.V s.o s.p)) w := by
 unfold execOp
 simp only [e, Sem.run_bind, run_field_bk, Result.andThen_ok, Sem.run_pure]
theorem run_fieldn {ρ : Operand → Value} {w : World} {x : Tmp} {s : Sp} {n : Int} {d : Option Tmp} {t : TypeId} {pos : String} {af : Array Edge} {gd : Option (Nat × Bool)} (e : ρ (.tmp x) = s.V) (h : s.t = n) : (execOp ρ { dst := d, op := Op.field 44 (.tmp x) 2, type := t, pos := pos, after := af, guard := gd }).run Tryz.prog w = .ok (.value (.int .i64 n)) w := by
 subst h
 unfold execOp
 simp only [e, Sem.run_bind, run_field_now, Result.andThen_ok, Sem.run_pure]
section
variable {c : Cfg} {w W W' : World} {g : Nat} {x x1 : Vt} {hs xs : List Cg} {q7 q6 : Nat} {ss : List Sp} {uu : Uv}
structure TJ (c : Cfg) (w : World) (g : Nat) (x x1 : Vt) (hs xs : List Cg) (q7 : Nat) (ss : List Sp) (q6 : Nat) (uu : Uv) (b : Bool) (W : World) : Prop where
 uv : UvAt W q6 uu
 no : b = false → MS c w W g x hs xs q7 ss q6 uu x.s.b hs xs
 yes : b = true → XS c w W g x1 hs xs q7 ss q6 uu
theorem TJ.step {b : Bool} (h : TJ c w g x x1 hs xs q7 ss q6 uu b W) (hb : Below W.heap.size W W') : TJ c w g x x1 hs xs q7 ss q6 uu b W' :=
 ⟨h.uv.step hb, fun e => (h.no e).step hb, fun e => (h.yes e).step hb⟩
theorem TJ.pre (h : MS c w W g x hs xs q7 ss q6 uu x.s.b hs xs) : TJ c w g x x1 hs xs q7 ss q6 uu false W :=
 ⟨h.uv, fun _ => h, fun e => by cases e⟩
theorem MS.tickV (h : MS c w W g x hs xs q7 ss q6 uu x.s.b hs xs) (hx : ({ x with s := { x.s with t := x.s.t + 1 } } : Vt) = x1) (hn : uu.now = x.s.t + 1) (h0 : 0 ≤ x.s.t) (h1 : x.s.t < 1000) :
  Calls Tryz.prog 8 #[ptr g 0] W fun e W' => e = .returned (.bool true) ∧ TJ c w g x x1 hs xs q7 ss q6 uu true W' := by
 subst hx
 refine (h.vs.tick h0 h1).mono ?_
 rintro e W' ⟨rfl, hv, hc⟩
 have hx := h.clock hn hc hv
 exact ⟨rfl, ⟨hx.uv, (fun e => by cases e), fun _ => hx⟩⟩
end
end Go.Proofs.YtplapoenhohliaaGreat
namespace Go.Proofs.YtplapoenhohliaaGreat.AnyOrder
open Go Go.RowKit
set_option linter.unnecessarySimpa false
set_option linter.unusedSimpArgs false
set_option linter.unusedVariables false
section
variable {P : Program} {ops : Array Oper} {Q : Exit → Act → World → Prop}
variable {V : Nat → Value → World → Prop} {J : Bool → World → Prop} {a0 : Act}
theorem wpAny_inv8 {n f : Nat} (hf : Fits2 ops n a0.tmps.size none) (hfn : f < n) (mono : ∀ i v w w', V i v w → V i v w')
  (step : ∀ (i : Nat) (o : Oper) (listed : Nat → Bool) (a : Act) (w : World), i < n → ops[i]? = some o → listed i = false → St ops V (J (listed f)) a0 listed a w → (∀ j, listed j = true → j < n) → (∀ e ∈ o.after, Region.binds .any e = true → listed e.on = true) → (∀ (j : Nat) (o' : Oper), listed j = true → ops[j]? = some o' → ∀ e ∈ o'.after, Region.binds .any e = true → listed e.on = true) →
   wpOp P ops Q i (fun a' w' => ∃ v, a' = a.put o.dst v ∧ J (if f = i then true else listed f) w' ∧ ∀ d, o.dst = some d → V i v w') a w)
  (fin : ∀ a w, St ops V (J true) a0 (fun i => decide (i < n)) a w → wpList P ops Q (ops.toList.drop n) a w) :
  ∀ (fuel : Nat) (listed : Array Bool) (a : Act) (w : World), listed.size = ops.size → listed.toList.count false = fuel → (∀ i, listed.getD i false = true → i < n) → (∀ (j : Nat) (o' : Oper), listed.getD j false = true → ops[j]? = some o' → ∀ e ∈ o'.after, Region.binds .any e = true → listed.getD e.on false = true) →
   St ops V (J (listed.getD f false)) a0 (fun i => listed.getD i false) a w → wpAny P .any ops Q fuel listed a w := by
 have hle := hf.le
 have getb : ∀ (listed : Array Bool) (i : Nat), listed.size = ops.size → i < ops.size → ∃ b, listed[i]? = some b ∧ listed.getD i false = b ∧ listed.getD i true = b := by
  intro listed i hs hi
  have hg : listed[i]? = some listed[i] := Array.getElem?_eq_getElem (by omega)
  exact ⟨_, hg, by rw [Array.getD_eq_getD_getElem?, hg]; rfl, by rw [Array.getD_eq_getD_getElem?, hg]; rfl⟩
 have all : ∀ (fuel : Nat) (listed : Array Bool) (a : Act) (w : World), listed.size = ops.size → listed.toList.count false = fuel → (∀ i, listed.getD i false = true → i < n) → (∀ i, i < n → listed.getD i false = true) →
   St ops V (J (listed.getD f false)) a0 (fun i => listed.getD i false) a w → wpAny P .any ops Q fuel listed a w := by
  intro fuel listed a w hs hc hl hall st
  have e : listed = upTo ops n := by
   apply Array.ext_getElem?
   intro i
   by_cases hi : i < ops.size
   ·rw [upTo_get hi]
    obtain ⟨b, h1, h2, _⟩ := getb listed i hs hi
    rw [h1]
    congr 1
    cases b with
    | true => exact (decide_eq_true (hl i h2)).symm
    | false => exact (decide_eq_false (fun hn => by rw [hall i hn] at h2; cases h2)).symm
   ·rw [Array.getElem?_eq_none (by omega), Array.getElem?_eq_none (by rw [upTo_size]; omega)]
  subst e
  rw [count_upTo] at hc
  subst hc
  refine wpAny_tail2 hf _ n a w (by omega) (Nat.le_refl _) (fin a w ⟨by have h := st.inv; rw [hall f hfn] at h; exact h, st.defers, st.size, fun i d hi hd => st.done i d (hall i (of_decide_eq_true hi)) hd, fun t ht => st.rest t fun i hi => ht i (decide_eq_true (hl i hi))⟩)
 intro fuel
 induction fuel with
 | zero =>
  intro listed a w hs hc hl cl st
  have hall : ∀ i, i < n → listed.getD i false = true := by
   intro i hi
   have hm : listed[i]'(by omega) ∈ listed.toList := by simp
   have := List.count_eq_zero.mp hc
   cases hb : listed[i]'(by omega) with
   | true => simp [Array.getD_eq_getD_getElem?, Array.getElem?_eq_getElem (show i < listed.size by omega), hb]
   | false => rw [hb] at hm; exact absurd hm this
  exact all 0 listed a w hs hc hl hall st
 | succ fuel ih =>
  intro listed a w hs hc hl cl st
  by_cases hall : ∀ i, i < n → listed.getD i false = true
  ·exact all _ listed a w hs hc hl hall st
  have hex : ∃ i, i < n ∧ listed.getD i false = false := by
   apply Decidable.byContradiction
   intro hno
   apply hall
   intro i hi
   cases hb : listed.getD i false with
   | true => rfl
   | false => exact absurd ⟨i, hi, hb⟩ hno
  refine ⟨fun hr => ?_, fun i hi => ?_⟩
  ·exfalso
   apply hall
   intro i
   induction i using Nat.strongRecOn with
   | _ i ih2 =>
    intro hi
    apply Decidable.byContradiction
    intro hn
    have hno : i ∉ Region.ready .any ops listed := by rw [hr]; simp
    apply hno
    rw [mem_ready]
    obtain ⟨b, h1, h2, h3⟩ := getb listed i hs (by omega)
    refine ⟨?_, ops[i], Array.getElem?_eq_getElem (by omega), fun e he hb => ?_⟩
    ·rw [h3]; rw [h2] at hn; simpa using hn
    ·have := hf.back i ops[i] (Array.getElem?_eq_getElem (by omega)) e he hb
     exact ih2 e.on this (by omega)
  ·rw [mem_ready] at hi
   obtain ⟨hl2, o, ho, hdep⟩ := hi
   have hlt := (Array.getElem?_eq_some_iff.1 ho).1
   obtain ⟨b, hb1, hb2, hb3⟩ := getb listed i hs hlt
   rw [hb3] at hl2
   subst hl2
   by_cases hin : i < n
   ·refine wpOp_mono ?_ (step i o _ a w hin ho hb2 st hl hdep cl)
    rintro a' w' ⟨v, rfl, hJ, hv⟩
    have e : (fun j => if j = i then true else listed.getD j false) = fun j => (listed.setIfInBounds i true).getD j false := by
     funext j
     by_cases hji : j = i
     ·subst hji; simp [Array.getD_eq_getD_getElem?, show j < listed.size by omega]
     ·simp [Array.getD_eq_getD_getElem?, hji, Ne.symm hji]
    apply ih _ _ _ (by simpa using hs)
    ·have := count_set listed.toList i (by simpa using hb1)
     rw [Array.toList_setIfInBounds]; omega
    ·intro j hj
     have := congrFun e j
     rw [hj] at this
     by_cases hji : j = i
     ·subst hji; exact hin
     ·simp only [hji, if_false] at this
      exact hl j this
    ·intro j o' hj ho' ed hed hbd
     have h1 := congrFun e j
     rw [hj] at h1
     have h2 := congrFun e ed.on
     rw [← h2]
     by_cases hei : ed.on = i
     ·simp only [hei, if_true]
     ·simp only [hei, if_false]
      by_cases hji : j = i
      ·subst hji
       rw [ho] at ho'
       injection ho' with ho'
       subst ho'
       exact hdep ed hed hbd
      ·simp only [hji, if_false] at h1
       exact cl j o' h1 ho' ed hed hbd
    ·have h0 : St ops V (fun _ => True) a0 (fun j => listed.getD j false) a w := ⟨trivial, st.defers, st.size, st.done, st.rest⟩
     have hp := h0.put2 hf hl (mono := fun j u hu => mono j u w w' hu) hin ho v trivial hv
     rw [e] at hp
     have ef : (if f = i then true else listed.getD f false) = (listed.setIfInBounds i true).getD f false := congrFun e f
     rw [ef] at hJ
     exact ⟨hJ, hp.defers, hp.size, hp.done, hp.rest⟩
   ·obtain ⟨j0, hj0, hjf⟩ := hex
    rcases hf.tail i o j0 (by omega) (by omega) ho with ⟨_, h1⟩ | ⟨e, he, hb, rfl⟩
    ·cases h1
    ·rw [hdep e he hb] at hjf; cases hjf
variable {ks : List Kind}
theorem region_two {id : Nat} {w : World} (n : Nat) (ks : List Kind) (f : Nat) (J : Bool → World → Prop) (hm : P.follows .mixedOrders = true) (hfn : f < n)
  (hf : fits2 ops n a0.tmps.size none = true) (hk : ks.length = n) (hd : (ops.toList.take n).all (fun o => o.dst.isSome) = true) (start : J false w.drew)
  (keep : ∀ p w w', (Kind.of p) ∈ ks → ∀ v, p v w → p v w')
  (step : ∀ (i : Nat) (o : Oper) (listed : Nat → Bool) (a : Act) (w : World), i < n → i ≠ f → ops[i]? = some o → StK ops ks (J (listed f)) a0 listed a w → (∀ j, listed j = true → j < n) → (∀ e ∈ o.after, Region.binds .any e = true → listed e.on = true) → (∀ (j : Nat) (o' : Oper), listed j = true → ops[j]? = some o' → ∀ e ∈ o'.after, Region.binds .any e = true → listed e.on = true) →
   wpOp P ops Q i (Post ks (J (listed f)) i o a w) a w)
  (turn : ∀ (o : Oper) (listed : Nat → Bool) (a : Act) (w : World), ops[f]? = some o → StK ops ks (J false) a0 listed a w → (∀ j, listed j = true → j < n) → (∀ e ∈ o.after, Region.binds .any e = true → listed e.on = true) →
   wpOp P ops Q f (fun a' w' => ∃ v, a' = a.put o.dst v ∧ J true w' ∧ ∀ d, o.dst = some d → (kindAt ks f).holds v w') a w)
  (fin : ∀ w, J true w → finK w (fun a => wpList P ops Q (ops.toList.drop n) a w) ks (ops.toList.take n) a0) : (Code.region id ops true).wp P Q a0 w := by
 have hF := fits2_spec hf
 have hz : ∀ i, (Array.replicate ops.size false).getD i false = false := by
  intro i
  by_cases hi : i < ops.size <;> simp [Array.getD_eq_getD_getElem?, hi]
 refine wp_region_any hm (wpAny_inv8 (n := n) (f := f) (V := fun i v w => (kindAt ks i).holds v w) (J := J) hF hfn (fun i v x y hv => ?_) ?_ (fun a w st => fin_all hF hk hd fin a w st) ops.size _ a0 _ (by simp) (by simp) ?_ ?_ ?_)
 ·have hks : kindAt ks i = (ks[i]?).getD (.of fun _ _ => True) := rfl
  cases hi : ks[i]? with
  | none => rw [hks, hi]; exact trivial
  | some k =>
   rw [hks, hi] at hv ⊢
   cases k with
   | eq x => exact hv
   | of p => exact keep p x y (List.mem_of_getElem? hi) v hv
 ·intro i o listed a w hin ho hn st hl hdep cl
  by_cases hif : i = f
  ·subst hif
   rw [hn] at st
   refine wpOp_mono ?_ (turn o listed a w ho st hl hdep)
   rintro a' w' ⟨v, h1, h2, h3⟩
   exact ⟨v, h1, by rw [if_pos rfl]; exact h2, h3⟩
  ·refine wpOp_mono ?_ (step i o listed a w hin hif ho st hl hdep cl)
   rintro a' w' ⟨v, h1, h2, h3, h4⟩
   exact ⟨v, h1, by rw [if_neg (fun e => hif e.symm)]; exact h2, h4⟩
 ·intro i hi
  rw [hz] at hi; cases hi
 ·intro j o' hj
  rw [hz] at hj; cases hj
 ·exact ⟨by rw [hz]; exact start, rfl, rfl, (fun i d hi _ => by rw [hz] at hi; exact absurd hi (by decide)), fun t _ => rfl⟩
theorem turn_call {J : World → Prop} {i : Nat} {o : Oper} {a : Act} {w : World} (ho : ops[i]? = some o) (hg : Region.wanted o (yielded ops a.tmps) = true) (fn : FuncId) (args : Array Value)
  (hrun : (execOp a.eval o).run P w = .ok (.enter fn args) w) (hc : Calls P fn args w fun e w' => ∃ v, e = .returned v ∧ J w' ∧ (kindAt ks i).holds v w') :
  wpOp P ops Q i (fun a' w' => ∃ v, a' = a.put o.dst v ∧ J w' ∧ ∀ d, o.dst = some d → (kindAt ks i).holds v w') a w := by
 refine wpOp_wanted ho hg ?_
 unfold Oper.wp
 rw [hrun, Oper.upon_enter]
 refine hc.mono ?_
 rintro e w' ⟨v, rfl, hJ, hv⟩
 exact ⟨v, rfl, hJ, fun _ _ => hv⟩
end
end Go.Proofs.YtplapoenhohliaaGreat.AnyOrder
