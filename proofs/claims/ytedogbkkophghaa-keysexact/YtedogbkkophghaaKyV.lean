/- The document's own keys: With. -/
import Derived.Test.YtedogbkkophghaaKyU
import Derived.Test.YtedogbkkophghaaOrder6
namespace Go.Proofs.Ytedogbkkophghaa
open Go.RowKit Go.Lib
open Sh.Plain (KV get put Rise)
set_option linter.unusedVariables false
set_option linter.unusedSimpArgs false

def rone (who k : Int) (body ans : ByteArray) : En := ⟨who, k, body, ans⟩
def radd (u : Ur) (now who k : Int) (body ans : ByteArray) : Ur := ⟨u.c, rcnt u.c now u.l ++ [rone who k body ans]⟩
def rwith (u : Ur) (now who k : Int) (body ans : ByteArray) : Ur × Int := if (rlook u now who k body).2 = 1 then (radd u now who k body ans, 0) else (zu, 7)
def UAns (w : World) (r : Ur × Int) (e : Ending) (w' : World) : Prop := ∃ O n, e = .returned (.tuple #[r.1.V O n, .int .i64 r.2]) ∧ Sh.Own eN w' w.heap.size (slv O r.1.l.length n) r.1.l ∧ Below w.heap.size w w'
/-- what the steps of the region come to -/
def NOwn (B : Nat) (xs : List En) (v : Value) (w : World) : Prop := Sh.Own eN w B v xs
def NOne (z : En) (v : Value) (w : World) : Prop := ∃ q, v = .slice (some ⟨q, 0, none⟩) 1 1 ∧ At w q eN.e (eN.enc z).toArray
def NUr (B : Nat) (d : Ur) (v : Value) (w : World) : Prop := ∃ O n, v = d.V O n ∧ Sh.Own eN w B (slv O d.l.length n) d.l
section
variable {B : Nat} {xs : List En} {z : En} {v : Value} {w w' : World}
theorem NOwn.old (h : NOwn B xs v w) (hb : Sh.Apd eN B xs z w w') : NOwn B xs v w' := hb.old v h
theorem NOwn.new (h : NOwn B (xs ++ [z]) v w) (hb : Sh.Apd eN B xs z w w') : NOwn B (xs ++ [z]) v w' := hb.new v h
theorem NOne.keep (h : NOne z v w) (hb : Sh.Apd eN B xs z w w') : NOne z v w' := by
  obtain ⟨q, rfl, h⟩ := h
  exact ⟨q, rfl, hb.one q h⟩
theorem NUr.keep {c : Cfg} (h : NUr B ⟨c, xs ++ [z]⟩ v w) (hb : Sh.Apd eN B xs z w w') : NUr B ⟨c, xs ++ [z]⟩ v w' := by
  obtain ⟨O, n, rfl, h⟩ := h
  exact ⟨O, n, rfl, hb.new _ h⟩
end
theorem NOne.made (w : World) (z : En) : NOne z (.slice (some ⟨w.heap.size, 0, none⟩) 1 1) (w.alloc (.cells z.cells 74)) := ⟨w.heap.size, rfl, At.new w 74 z.cells⟩
theorem NOne.cell {z : En} {w : World} {q : Nat} (h : At w q eN.e (eN.enc z).toArray) : ∀ j v, (eN.enc z)[j]? = some v → w.cell? ⟨q, 0 + j, none⟩ = some v := by
  intro j v hv
  rw [Nat.zero_add, At.cell h]
  simpa using hv
section
variable {ρ : Operand → Value} {w w' : World} {x y : Tmp} {d : Option Tmp} {t : TypeId} {pos : String} {af : Array Edge} {gd : Option (Nat × Bool)}
theorem run_append_en {vs vx v' : Value} (e1 : ρ (.tmp x) = vs) (e2 : ρ (.tmp y) = vx) (hr : (Builtin.append_ #[33, 33] t #[vs, vx]).run Try.prog w = .ok v' w') :
    (execOp ρ { dst := d, op := Op.call { callee := Callee.builtin Builtin.append, args := #[Operand.tmp x, Operand.tmp y], argTypes := #[33, 33] }, type := t, pos := pos, after := af, guard := gd }).run Try.prog w = .ok (.value v') w' := by
  unfold execOp
  simp only [resolve, invoke, builtin, Sem.run_bind, Sem.run_pure, Result.andThen_ok, List.map_toArray, List.map_cons, List.map_nil, e1, e2, hr]
end
theorem setRow_chg (w : World) (q : Nat) (ds : Array Value) : Chg w (w.setRow q ds) (fun k => k = q) := by
  have hb := below_setRow (Below.refl q w) (Nat.le_refl q) ds
  refine ⟨hb.os, hb.tape, hb.output, ?_, fun k hk hne => ?_⟩
  · unfold World.setRow
    simp
  · unfold World.setRow
    simp only [Array.getElem?_modify]
    rw [if_neg (fun h => hne h.symm)]
/-- the keys and the block of the answer -/
structure WSU (w W : World) (g q : Nat) (u : Ur) (O : Option Addr) (n : Nat) : Prop where
  bel : Below w.heap.size w W
  uk : UrAt W g u O n
  ans : UrAt W q zu none 0
  lo : w.heap.size ≤ g ∧ w.heap.size ≤ q
theorem WSU.new (w : World) (u : Ur) (O : Option Addr) (n : Nat) : WSU w ((w.alloc (.cells (u.cells O n) 35)).alloc (.cells Z19 35)) w.heap.size (w.heap.size + 1) u O n := by
  obtain ⟨h1, h2, h3⟩ := new2 w (u.cells O n) Z19 35 35
  exact ⟨h1, h2, h3, ⟨by omega, by omega⟩⟩
theorem WSU.step {w W W' : World} {g q : Nat} {u : Ur} {O : Option Addr} {n : Nat} (h : WSU w W g q u O n) (hb : Below W.heap.size W W') : WSU w W' g q u O n := ⟨h.bel.trans (hb.mono h.bel.size), At.step h.uk hb, At.step h.ans hb, h.lo⟩
theorem WSU.fin {w W : World} {g q : Nat} {u d : Ur} {O O' : Option Addr} {n n' : Nat} (h : WSU w W g q u O n) (ha : Sh.Own eN W w.heap.size (slv O' d.l.length n') d.l) (r : Int) : UrAt (W.setRow q (d.cells O' n')) q d O' n' ∧ UAns w (d, r) (.returned (.tuple #[d.V O' n', .int .i64 r])) (W.setRow q (d.cells O' n')) :=
  ⟨At.setRow h.ans _, O', n', rfl, ha.chg (setRow_chg W q (d.cells O' n')) (fun k hk e => by rw [e] at hk; exact own_ne ha h.ans (by decide) hk), setRow_below h.bel h.lo.2 _⟩
set_option maxRecDepth 100000 in
set_option maxHeartbeats 3200000 in
theorem rwith_no {u : Ur} {O : Option Addr} {n B : Nat} {w : World} (now who k : Int) (body ans : ByteArray) (hk : isU k) (hn : isI now) (hs : Sh.Own eN w B (slv O u.l.length n) u.l) (hku : ∀ y ∈ u.l, isU y.key) (hc : 0 ≤ u.c.get 6 ∧ u.c.get 6 ≤ 65536) (hl : u.l.length ≤ 1000) (h : (rlook u now who k body).2 ≠ 1) : Calls Try.prog 17 #[u.V O n, .int .i64 now, .int .i64 who, .int .u64 k, .string body, .string ans] w (UAns w (rwith u now who k body ans)) := by
  rw [show rwith u now who k body ans = (zu, 7) from if_neg h]
  have HT := Lib.hid (WSU.new w u O n)
  have HS := Lib.hid (hs.below HT.out.bel)
  have CL := Lib.hid (fun W (h : Sh.Own eN W B (slv O u.l.length n) u.l) => rlook_any now who k body hk hn h hku hc hl)
  have CC := Lib.hid (fun W (h : Sh.Own eN W B (slv O u.l.length n) u.l) => rcounts_any now h hku hc hl)
  have HL := Lib.hid (show (rcnt u.c now u.l).length ≤ 1000 from Nat.le_trans (List.length_filter_le ..) hl)
  have HN := Lib.hid h; clear h hk hn hs hku hc hl
  go_enter Try.func17, Try.ntmps17
  go_upto_region 1 with fail
  obtain ⟨W, hW⟩ : ∃ W, (w.alloc (.cells (u.cells O n) 35)).alloc (.cells Z19 35) = W := ⟨_, rfl⟩
  rw [hW] at HT HS ⊢; clear hW
  generalize w.heap.size + 1 = q at HT ⊢
  generalize hgg : w.heap.size = g at HT ⊢
  have HGG := Lib.hid hgg; clear hgg
  have HK := Lib.hid HT.out.uk
  go_wp2_with ((with_reducible apply wpList_load_ur (h := HK.out)); exact rfl; exact rfl; exact rfl)
  refine (CL.out _ HS.out).mono ?_
  rintro e w1 ⟨rfl, hb1⟩
  have H1 := Lib.hid (HT.out.step hb1); have S1 := Lib.hid (HS.out.below hb1); clear HT HS HK CL hb1
  generalize rlook u now who k body = lk at *
  obtain ⟨s1, n1⟩ := lk
  clear CC HL S1
  have d1 : decide (n1 = 1) = false := by simpa using HN.out
  have d2 : (n1 != 1) = true := by simpa using HN.out
  have d3 : (n1 == 1) = false := by simpa using HN.out
  have HQ := Lib.hid H1.out.ans
  go_wp2_with (first | ((with_reducible apply wpList_build_zu); exact rfl; exact rfl) | ((with_reducible apply wpList_store_ur (u := zu) (O := none) (n := 0) (hq := HQ.out)); exact rfl; exact rfl; exact rfl; exact rfl))
  have HF := H1.out.fin (d := zu) (O' := none) (n' := 0) (Sh.Own.nil eN w1 _) 7
  exact bodyPost_ret (results_ur (v := .int .i64 7) Try.results17 rfl rfl HF.1) rfl HF.2
set_option maxRecDepth 100000 in
set_option maxHeartbeats 3200000 in
theorem rwith_new {u : Ur} {O : Option Addr} {n B : Nat} {w : World} (now who k : Int) (body ans : ByteArray) (hk : isU k) (hn : isI now) (hs : Sh.Own eN w B (slv O u.l.length n) u.l) (hku : ∀ y ∈ u.l, isU y.key) (hc : 0 ≤ u.c.get 6 ∧ u.c.get 6 ≤ 65536) (hl : u.l.length ≤ 1000) (h : (rlook u now who k body).2 = 1) : Calls Try.prog 17 #[u.V O n, .int .i64 now, .int .i64 who, .int .u64 k, .string body, .string ans] w (UAns w (rwith u now who k body ans)) := by
  rw [show rwith u now who k body ans = (⟨u.c, rcnt u.c now u.l ++ [rone who k body ans]⟩, 0) from if_pos h]
  have HT := Lib.hid (WSU.new w u O n)
  have HS := Lib.hid (hs.below HT.out.bel)
  have CL := Lib.hid (fun W (h : Sh.Own eN W B (slv O u.l.length n) u.l) => rlook_any now who k body hk hn h hku hc hl)
  have CC := Lib.hid (fun W (h : Sh.Own eN W B (slv O u.l.length n) u.l) => rcounts_any now h hku hc hl)
  have HL := Lib.hid (show (rcnt u.c now u.l).length ≤ 1000 from Nat.le_trans (List.length_filter_le ..) hl)
  have HN := Lib.hid h; clear h hk hn hs hku hc hl
  go_enter Try.func17, Try.ntmps17
  go_upto_region 1 with fail
  obtain ⟨W, hW⟩ : ∃ W, (w.alloc (.cells (u.cells O n) 35)).alloc (.cells Z19 35) = W := ⟨_, rfl⟩
  rw [hW] at HT HS ⊢; clear hW
  generalize w.heap.size + 1 = q at HT ⊢
  generalize hgg : w.heap.size = g at HT ⊢
  have HGG := Lib.hid hgg; clear hgg
  have HK := Lib.hid HT.out.uk
  go_wp2_with ((with_reducible apply wpList_load_ur (h := HK.out)); exact rfl; exact rfl; exact rfl)
  refine (CL.out _ HS.out).mono ?_
  rintro e w1 ⟨rfl, hb1⟩
  have H1 := Lib.hid (HT.out.step hb1); have S1 := Lib.hid (HS.out.below hb1); clear HT HS HK CL hb1
  generalize rlook u now who k body = lk at *
  obtain ⟨s1, n1⟩ := lk
  have HN1 : Hid (n1 = 1) := Lib.hid HN.out
  obtain rfl := HN1.out
  clear HN HN1
  have HZ : Hid ((⟨who, k, body, ans⟩ : En) = rone who k body ans) := Lib.hid rfl
  generalize rone who k body ans = z at *
  generalize rcnt u.c now u.l = L at *
  go_upto_region 4 with fail
  refine AnyOrder.region_kindsG 13 [.eq (ptr g 0), .eq (u.c.V), .eq (u.V O n), .eq (.int .i64 now), .of (NOwn w1.heap.size L), .eq (.int .i64 who), .eq (.int .u64 k), .eq (.string body), .eq (.string ans), .eq (z.V), .of (NOne z), .of (NOwn w1.heap.size (L ++ [z])), .of (NUr w1.heap.size ⟨u.c, L ++ [z]⟩)] (fun wx => Below w1.heap.size w1 wx) (Sh.Apd eN w1.heap.size L z) (by kernel_rfl) (by kernel_rfl) rfl (by kernel_rfl) (below_drewN (Below.refl _ _) 1) (by intro p wa wb hp hj hb v hv; simp at hp; rcases hp with rfl | rfl | rfl | rfl <;> (first | exact NOwn.old hv hb | exact NOne.keep hv hb | exact NOwn.new hv hb | exact NUr.keep hv hb | fail)) ?_ ?_
  · intro i o listed a1 w2 hin ho st hl hdep
    match i, ho with
    | 0, ho => (injection ho with ho; subst ho; have ec : ∀ v, a1.eval (.const v) = v := fun _ => rfl; have ef : ∀ f, a1.eval (.func f) = .func (.func f) #[] #[] := fun _ => rfl; have e0 : a1.eval (.tmp 6) = ptr g 0 := st.old hl 6 (by kernel_rfl); exact AnyOrder.step_valueG rfl (AnyOrder.wanted_none rfl) (ptr g 0) (by generalize a1.eval = ρ at ec ef e0 ⊢; simp [execOp, ec, ef, e0, IntWalk.i64_left, go_sem]) st.inv (Sh.Apd.refl _ _ _ _ _) rfl)
    | 1, ho => (injection ho with ho; subst ho; have ec : ∀ v, a1.eval (.const v) = v := fun _ => rfl; have ef : ∀ f, a1.eval (.func f) = .func (.func f) #[] #[] := fun _ => rfl; have e0 : a1.eval (.tmp 28) = ptr g 0 := st.done 0 28 (hdep ⟨0, .data⟩ (by simp) rfl) rfl; exact AnyOrder.step_valueG rfl (AnyOrder.wanted_none rfl) (u.c.V) (run_load_cp e0 (UrAt.kc (At.step H1.out.uk st.inv))) st.inv (Sh.Apd.refl _ _ _ _ _) rfl)
    | 2, ho => (injection ho with ho; subst ho; have ec : ∀ v, a1.eval (.const v) = v := fun _ => rfl; have ef : ∀ f, a1.eval (.func f) = .func (.func f) #[] #[] := fun _ => rfl; have e0 : a1.eval (.tmp 6) = ptr g 0 := st.old hl 6 (by kernel_rfl); exact AnyOrder.step_valueG rfl (AnyOrder.wanted_none rfl) (u.V O n) (run_load_ur e0 (At.step H1.out.uk st.inv)) st.inv (Sh.Apd.refl _ _ _ _ _) rfl)
    | 3, ho => (injection ho with ho; subst ho; have ec : ∀ v, a1.eval (.const v) = v := fun _ => rfl; have ef : ∀ f, a1.eval (.func f) = .func (.func f) #[] #[] := fun _ => rfl; have e0 : a1.eval (.tmp 1) = .int .i64 now := st.old hl 1 (by kernel_rfl); exact AnyOrder.step_valueG rfl (AnyOrder.wanted_none rfl) (.int .i64 now) (AnyOrder.run_move e0) st.inv (Sh.Apd.refl _ _ _ _ _) rfl)
    | 4, ho => (injection ho with ho; subst ho; have ec : ∀ v, a1.eval (.const v) = v := fun _ => rfl; have ef : ∀ f, a1.eval (.func f) = .func (.func f) #[] #[] := fun _ => rfl; have e0 : a1.eval (.tmp 30) = u.V O n := st.done 2 30 (hdep ⟨2, .data⟩ (by simp) rfl) rfl; have e1 : a1.eval (.tmp 31) = .int .i64 now := st.done 3 31 (hdep ⟨3, .data⟩ (by simp) rfl) rfl; exact AnyOrder.step_callG rfl (AnyOrder.wanted_none rfl) 20 #[u.V O n, .int .i64 now] (by generalize a1.eval = ρ at ec ef e0 e1 ⊢; simp [execOp, ec, ef, e0, e1, go_sem]) ((CC.out w2 (S1.out.below st.inv)).mono (fun e w4 h => by obtain ⟨vk, rfl, ho, hb⟩ := h; exact ⟨_, rfl, st.inv.trans (hb.mono st.inv.size), Sh.Apd.of_below hb st.inv.size, ho.mono st.inv.size⟩)))
    | 5, ho => (injection ho with ho; subst ho; have ec : ∀ v, a1.eval (.const v) = v := fun _ => rfl; have ef : ∀ f, a1.eval (.func f) = .func (.func f) #[] #[] := fun _ => rfl; have e0 : a1.eval (.tmp 2) = .int .i64 who := st.old hl 2 (by kernel_rfl); exact AnyOrder.step_valueG rfl (AnyOrder.wanted_none rfl) (.int .i64 who) (AnyOrder.run_move e0) st.inv (Sh.Apd.refl _ _ _ _ _) rfl)
    | 6, ho => (injection ho with ho; subst ho; have ec : ∀ v, a1.eval (.const v) = v := fun _ => rfl; have ef : ∀ f, a1.eval (.func f) = .func (.func f) #[] #[] := fun _ => rfl; have e0 : a1.eval (.tmp 3) = .int .u64 k := st.old hl 3 (by kernel_rfl); exact AnyOrder.step_valueG rfl (AnyOrder.wanted_none rfl) (.int .u64 k) (AnyOrder.run_move e0) st.inv (Sh.Apd.refl _ _ _ _ _) rfl)
    | 7, ho => (injection ho with ho; subst ho; have ec : ∀ v, a1.eval (.const v) = v := fun _ => rfl; have ef : ∀ f, a1.eval (.func f) = .func (.func f) #[] #[] := fun _ => rfl; have e0 : a1.eval (.tmp 4) = .string body := st.old hl 4 (by kernel_rfl); exact AnyOrder.step_valueG rfl (AnyOrder.wanted_none rfl) (.string body) (AnyOrder.run_move e0) st.inv (Sh.Apd.refl _ _ _ _ _) rfl)
    | 8, ho => (injection ho with ho; subst ho; have ec : ∀ v, a1.eval (.const v) = v := fun _ => rfl; have ef : ∀ f, a1.eval (.func f) = .func (.func f) #[] #[] := fun _ => rfl; have e0 : a1.eval (.tmp 5) = .string ans := st.old hl 5 (by kernel_rfl); exact AnyOrder.step_valueG rfl (AnyOrder.wanted_none rfl) (.string ans) (AnyOrder.run_move e0) st.inv (Sh.Apd.refl _ _ _ _ _) rfl)
    | 9, ho => (injection ho with ho; subst ho; have ec : ∀ v, a1.eval (.const v) = v := fun _ => rfl; have ef : ∀ f, a1.eval (.func f) = .func (.func f) #[] #[] := fun _ => rfl; have e0 : a1.eval (.tmp 33) = .int .i64 who := st.done 5 33 (hdep ⟨5, .data⟩ (by simp) rfl) rfl; have e1 : a1.eval (.tmp 34) = .int .u64 k := st.done 6 34 (hdep ⟨6, .data⟩ (by simp) rfl) rfl; have e2 : a1.eval (.tmp 35) = .string body := st.done 7 35 (hdep ⟨7, .data⟩ (by simp) rfl) rfl; have e3 : a1.eval (.tmp 36) = .string ans := st.done 8 36 (hdep ⟨8, .data⟩ (by simp) rfl) rfl; exact AnyOrder.step_valueG rfl (AnyOrder.wanted_none rfl) (z.V) (by rw [← HZ.out]; exact run_build_en e0 e1 e2 e3) st.inv (Sh.Apd.refl _ _ _ _ _) rfl)
    | 10, ho => (injection ho with ho; subst ho; have ec : ∀ v, a1.eval (.const v) = v := fun _ => rfl; have ef : ∀ f, a1.eval (.func f) = .func (.func f) #[] #[] := fun _ => rfl; have e0 : a1.eval (.tmp 37) = z.V := st.done 9 37 (hdep ⟨9, .data⟩ (by simp) rfl) rfl; exact AnyOrder.step_valueG rfl (AnyOrder.wanted_none rfl) _ (run_slice_en e0) (st.inv.alloc st.inv.size _) (Sh.Apd.of_below (below_new _ _) st.inv.size) (NOne.made w2 z))
    | 11, ho => (injection ho with ho; subst ho; have ec : ∀ v, a1.eval (.const v) = v := fun _ => rfl; have ef : ∀ f, a1.eval (.func f) = .func (.func f) #[] #[] := fun _ => rfl; have e0 := st.done 4 32 (hdep ⟨4, .data⟩ (by simp) rfl) rfl; have e1 := st.done 10 38 (hdep ⟨10, .data⟩ (by simp) rfl) rfl; obtain ⟨v18, e18⟩ : ∃ v, a1.eval (.tmp 32) = v := ⟨_, rfl⟩; rw [e18] at e0; have e0 : Sh.Own eN w2 w1.heap.size v18 L := e0; obtain ⟨p, ep, hp⟩ := e1; obtain ⟨v19, w7, hr, ho, ha⟩ := Sh.Own.push_apd e0 st.inv.size (NOne.cell hp) (Nat.le_trans HL.out (by decide)) 33; exact AnyOrder.step_valueG rfl (AnyOrder.wanted_none rfl) v19 (run_append_en e18 ep hr) (st.inv.trans ha.bel) ha ho)
    | 12, ho => (injection ho with ho; subst ho; have ec : ∀ v, a1.eval (.const v) = v := fun _ => rfl; have ef : ∀ f, a1.eval (.func f) = .func (.func f) #[] #[] := fun _ => rfl; have e0 : a1.eval (.tmp 29) = u.c.V := st.done 1 29 (hdep ⟨1, .data⟩ (by simp) rfl) rfl; have e1 := st.done 11 39 (hdep ⟨11, .data⟩ (by simp) rfl) rfl; obtain ⟨v18, e18⟩ : ∃ v, a1.eval (.tmp 39) = v := ⟨_, rfl⟩; rw [e18] at e1; have e1 : Sh.Own eN w2 w1.heap.size v18 (L ++ [z]) := e1; obtain ⟨O9, n9, rfl⟩ := own_sl e1; exact AnyOrder.step_valueG rfl (AnyOrder.wanted_none rfl) _ (run_build_ur e0 e18) st.inv (Sh.Apd.refl _ _ _ _ _) ⟨O9, n9, rfl, e1⟩)
    | n + 13, ho => exact absurd hin (by omega)
  · intro w6 hJ6
    simp only [AnyOrder.finK, List.take_succ_cons, List.take_zero, List.drop_succ_cons, List.drop_zero, Act.put, List.setIfInBounds_toArray, List.set_cons_zero, List.set_cons_succ]
    intro v4 h4 v10 h10 v11 h11 v12 h12
    obtain ⟨O9, n9, rfl, h9⟩ := h12
    have H6 := Lib.hid (H1.out.step hJ6)
    have HF := Lib.hid (H6.out.fin (h9.mono H1.out.bel.size) 0)
    have HQ := Lib.hid H6.out.ans
    clear CC HL S1 H1 H6 hJ6 h4 h10 h11 h9
    generalize L ++ [z] = L2 at *
    go_wp2_with ((with_reducible apply wpList_store_ur (u := ⟨u.c, L2⟩) (O := O9) (n := n9) (hq := HQ.out)); exact rfl; exact rfl; exact rfl; exact rfl)
    exact bodyPost_ret (results_ur (v := .int .i64 0) Try.results17 rfl rfl HF.out.1) rfl HF.out.2
/-- With, the document's own -/
theorem rwith_any {u : Ur} {O : Option Addr} {n B : Nat} {w : World} (now who k : Int) (body ans : ByteArray) (hk : isU k) (hn : isI now) (hs : Sh.Own eN w B (slv O u.l.length n) u.l) (hku : ∀ y ∈ u.l, isU y.key) (hc : 0 ≤ u.c.get 6 ∧ u.c.get 6 ≤ 65536) (hl : u.l.length ≤ 1000) : Calls Try.prog 17 #[u.V O n, .int .i64 now, .int .i64 who, .int .u64 k, .string body, .string ans] w (UAns w (rwith u now who k body ans)) := by
  by_cases h : (rlook u now who k body).2 = 1
  · exact rwith_new now who k body ans hk hn hs hku hc hl h
  · exact rwith_no now who k body ans hk hn hs hku hc hl h
end Go.Proofs.Ytedogbkkophghaa
