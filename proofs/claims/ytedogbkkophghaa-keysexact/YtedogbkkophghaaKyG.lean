/- Keys: With. -/
import Derived.Test.YtedogbkkophghaaKyF
namespace Go.Proofs.Ytedogbkkophghaa
open Go.RowKit Go.Lib
open Sh.Plain (KV get put Rise)
set_option linter.unusedVariables false
set_option linter.unusedSimpArgs false

/-- keys with one entry more, and an error -/
def entK (c : Cfg) (k : Int) (body ans : ByteArray) : E := ⟨lastK c k, body, ans⟩
def withY (b : Ky) (now who k : Int) (body ans : ByteArray) : Ky := ⟨b.c, put (pl who k) (entK b.c k body ans) (cnt now b.l), b.rm⟩
def withK (b : Ky) (now who k : Int) (body ans : ByteArray) : Ky × Int := if (lookK b now who k body).2 = 1 then (withY b now who k body ans, 0) else (zy, 7)
/-- there is room for as many as the building says -/
def Ky.fit (b : Ky) : Prop := okc b.c = true → (b.rm : Int) = b.c.get 5
def YAns2 (w : World) (r : Ky × Int) (e : Ending) (w' : World) : Prop := ∃ o, e = .returned (.tuple #[r.1.V o, .int .i64 r.2]) ∧ YAt w' r.1 o ∧ Below w.heap.size w w'
theorem get_cnt {now : Int} {p : ByteArray} {l : List KV} (h : get p l = none) : get p (cnt now l) = none :=
  Sh.Plain.get_none (fun y hy => Sh.Plain.get_none_iff h y (List.mem_filter.1 hy).1)
/-- what New says -/
theorem look_new {b : Ky} {now who k : Int} {body : ByteArray} (h : (lookK b now who k body).2 = 1) : canK b.c now who k = true ∧ get (pl who k) b.l = none ∧ ((cnt now b.l).length : Int) ≠ b.c.get 5 := by
  unfold lookK at h
  split at h
  · next hc =>
    refine ⟨hc, ?_⟩
    cases hg : get (pl who k) b.l with
    | none =>
      rw [hg] at h
      simp only at h
      by_cases hn : ((cnt now b.l).length : Int) = b.c.get 5
      · rw [if_pos hn] at h; simp at h
      · exact ⟨rfl, hn⟩
    | some x =>
      rw [hg] at h
      simp only at h
      by_cases hn : x.body = body
      · rw [if_pos hn] at h; simp at h
      · rw [if_neg hn] at h; simp at h
  · simp at h
theorem with_put {b : Ky} {now who k : Int} {body : ByteArray} {x : E} (hf : b.fit) (h : (lookK b now who k body).2 = 1) : Sh.wput b.rm (pl who k) x (cnt now b.l) = put (pl who k) x (cnt now b.l) ∧ Sh.wok b.rm (pl who k) (cnt now b.l) = true := by
  obtain ⟨hc, hg, hn⟩ := look_new h
  have hr := hf (canK_in hc).2.1
  have e : Sh.wok b.rm (pl who k) (cnt now b.l) = true := by
    unfold Sh.wok
    rw [get_cnt hg]
    simp
    omega
  exact ⟨by unfold Sh.wput; rw [if_pos e], e⟩
/-- the keys and the block of the answer -/
structure WSt (w W : World) (g q : Nat) (b : Ky) (o : Option Addr) : Prop where
  bel : Below w.heap.size w W
  bk : KyAt W g b o
  ans : KyAt W q zy none
  lo : w.heap.size ≤ g ∧ w.heap.size ≤ q
  ne : g ≠ q
theorem WSt.new (w : World) (b : Ky) (o : Option Addr) : WSt w ((w.alloc (.cells (b.cells o) 31)).alloc (.cells Z21 31)) w.heap.size (w.heap.size + 1) b o := by
  obtain ⟨h1, h2, h3⟩ := new2 w (b.cells o) Z21 31 31
  exact ⟨h1, h2, h3, ⟨by omega, by omega⟩, by omega⟩
theorem WSt.step {w W W' : World} {g q : Nat} {b : Ky} {o : Option Addr} (h : WSt w W g q b o) (hb : Below W.heap.size W W') : WSt w W' g q b o := ⟨h.bel.trans (hb.mono h.bel.size), At.step h.bk hb, At.step h.ans hb, h.lo, h.ne⟩
theorem WSt.three {w W : World} {g q i j k : Nat} {b b' : Ky} {o o' : Option Addr} {u v z : Value} (h : WSt w W g q b o) (hb : KyAt (((W.setCell ⟨g, i, none⟩ u).setCell ⟨g, j, none⟩ v).setCell ⟨g, k, none⟩ z) g b' o') : WSt w (((W.setCell ⟨g, i, none⟩ u).setCell ⟨g, j, none⟩ v).setCell ⟨g, k, none⟩ z) g q b' o' :=
  ⟨((h.bel.setCell h.lo.1 _).setCell h.lo.1 _).setCell h.lo.1 _, hb, ((At.far h.ans (Ne.symm h.ne) _).far (Ne.symm h.ne) _).far (Ne.symm h.ne) _, h.lo, h.ne⟩
theorem SAt.three {w : World} {g i j k : Nat} {t : TypeId} {cs : Array Value} {x y z : Value} (ha : At w g t cs) (h1 : t ≠ 93) (h2 : t ≠ 90) {v : Value} {l : List KV} {room : Nat} (h : Sh.SAt w v l room) : Sh.SAt (((w.setCell ⟨g, i, none⟩ x).setCell ⟨g, j, none⟩ y).setCell ⟨g, k, none⟩ z) v l room :=
  SAt.far ((At.set (At.set ha i x) j y)) h1 h2 (SAt.far (At.set ha i x) h1 h2 (SAt.far ha h1 h2 h))
theorem WSt.fin {w W : World} {g q : Nat} {b d : Ky} {o o' : Option Addr} (h : WSt w W g q b o) (ha : YAt W d o') (n : Int) : KyAt (W.setRow q (d.cells o')) q d o' ∧ YAns2 w (d, n) (.returned (.tuple #[d.V o', .int .i64 n])) (W.setRow q (d.cells o')) :=
  ⟨At.setRow h.ans _, o', rfl, ha.farRow h.ans (by decide) (by decide), setRow_below h.bel h.lo.2 _⟩
def ShAt (l : List KV) (rm : Nat) (v : Value) (w : World) : Prop := Sh.SAt w v l rm
theorem ShAt.keep {l : List KV} {rm : Nat} {v : Value} {w w' : World} (h : ShAt l rm v w) (hb : Below w.heap.size w w') : ShAt l rm v w' := Sh.SAt.step h hb
def TpAt (l : List KV) (rm : Nat) (ok : Bool) (v : Value) (w : World) : Prop := ∃ v', v = .tuple #[v', .bool ok] ∧ Sh.SAt w v' l rm
theorem TpAt.keep {l : List KV} {rm : Nat} {ok : Bool} {v : Value} {w w' : World} (h : TpAt l rm ok v w) (hb : Below w.heap.size w w') : TpAt l rm ok v w' := by
  obtain ⟨v', rfl, h⟩ := h
  exact ⟨v', rfl, h.step hb⟩
section
variable {ρ : Operand → Value} {w : World} {x y : Tmp} {d : Option Tmp} {t : TypeId} {pos : String} {af : Array Edge} {gd : Option (Nat × Bool)}
theorem run_load_e {g : Nat} {b : E} (e : ρ (.tmp x) = ptr g 0) (h : EAt w g b) : (execOp ρ { dst := d, op := Op.load 65 (.tmp x), type := t, pos := pos, after := af, guard := gd }).run Try.prog w = .ok (.value b.V) w := by
  unfold execOp
  simp only [e, Instr.loadAt, Instr.sureAddr, Sem.run_bind, Sem.run_pure, Result.andThen_ok, EAt.load h]
theorem run_store_lv {g n r : Nat} {b : Ky} {o o' : Option Addr} (h : KyAt w g b o) (e1 : ρ (.tmp x) = ptr g 18) (e2 : ρ (.tmp y) = sv o' n r) :
    (execOp ρ { dst := d, op := Op.store 29 (.tmp x) (.tmp y), type := t, pos := pos, after := af, guard := gd }).run Try.prog w = .ok .skip (((w.setCell ⟨g, 18, none⟩ (.pointer o')).setCell ⟨g, 19, none⟩ (.int .i64 (n : Int))).setCell ⟨g, 20, none⟩ (.int .i64 (r : Int))) := by
  have ht : w.there g 18 (#[Value.pointer o', .int .i64 (n : Int), .int .i64 (r : Int)] : Array Value).size := fun j hj => by
    refine ⟨?_, At.frozen h _⟩
    match j, hj with
    | 0, _ => rw [h.k18]; rfl
    | 1, _ => rw [h.k19]; rfl
    | 2, _ => rw [h.k20]; rfl
  unfold execOp
  simp only [e1, e2, Instr.storeAt, Instr.sureAddr, Sem.run_bind, Sem.run_pure, Result.andThen_ok, run_storeVar_mid (P := Try.prog) w g 18 29 _ ht (size29s o' n r) (by simp [Value.oneCell'])]
  rfl
end
theorem new_e (W : World) : EAt (W.alloc (.cells #[.int .i64 0, .string ⟨#[]⟩, .string ⟨#[]⟩] 65)) W.heap.size ze := EAt.new W ze
set_option maxRecDepth 100000 in
set_option maxHeartbeats 1600000 in
theorem with_no {b : Ky} {o : Option Addr} {w : World} (now who k : Int) (body ans : ByteArray) (hk : isU k) (hb : YAt w b o) (h : (lookK b now who k body).2 ≠ 1) :
    Calls Try.prog 16 #[b.V o, .int .i64 now, .int .i64 who, .int .u64 k, .string body, .string ans] w (YAns2 w (withK b now who k body ans)) := by
  rw [show withK b now who k body ans = (zy, 7) from if_neg h]
  have HT := Lib.hid (WSt.new w b o)
  have HA := Lib.hid (hb.step HT.out.bel); clear hb
  have CL := Lib.hid (fun W (h : YAt W b o) => look_any (b := b) now who k body hk h)
  have HN := Lib.hid h; clear h hk
  go_enter Try.func16, Try.ntmps16
  go_upto_region 1 with fail
  obtain ⟨W, hW⟩ : ∃ W, (w.alloc (.cells (b.cells o) 31)).alloc (.cells Z21 31) = W := ⟨_, rfl⟩
  rw [hW] at HT HA ⊢; clear hW
  generalize w.heap.size + 1 = q at HT ⊢
  generalize hgg : w.heap.size = g at HT ⊢
  have HGG := Lib.hid hgg; clear hgg
  have HK := Lib.hid HT.out.bk
  go_wp2_with ((with_reducible apply wpList_load_ky (h := HK.out)); exact rfl; exact rfl; exact rfl)
  refine (CL.out _ HA.out).mono ?_
  rintro e w1 ⟨rfl, hb1⟩
  have H1 := Lib.hid (HT.out.step hb1); have A1 := Lib.hid (HA.out.step hb1); clear HT HA HK CL hb1
  generalize lookK b now who k body = lk at *
  obtain ⟨s1, n1⟩ := lk
  have d1 : decide (n1 = 1) = false := by simpa using HN.out
  have d2 : (n1 != 1) = true := by simpa using HN.out
  have d3 : (n1 == 1) = false := by simpa using HN.out
  have HQ := Lib.hid H1.out.ans
  go_wp2_with (first | ((with_reducible apply wpList_build_zy); exact rfl; exact rfl) | ((with_reducible apply wpList_store_ky (b := zy) (s := none) (hq := HQ.out)); exact rfl; exact rfl; exact rfl; exact rfl))
  have HF := H1.out.fin (YAt.zero w1) 7
  exact bodyPost_ret (results_two Try.results16 rfl rfl HF.1) rfl HF.2
set_option maxRecDepth 100000 in
set_option maxHeartbeats 1600000 in
theorem with_new {b : Ky} {o : Option Addr} {w : World} (now who k : Int) (body ans : ByteArray) (hk : isU k) (hb : YAt w b o) (hf : b.fit) (h : (lookK b now who k body).2 = 1) :
    Calls Try.prog 16 #[b.V o, .int .i64 now, .int .i64 who, .int .u64 k, .string body, .string ans] w (YAns2 w (withK b now who k body ans)) := by
  rw [show withK b now who k body ans = (withY b now who k body ans, 0) from if_pos h]
  have HT := Lib.hid (WSt.new w b o)
  have HA := Lib.hid (hb.step HT.out.bel); clear hb
  have CL := Lib.hid (fun W (h : YAt W b o) => look_any (b := b) now who k body hk h)
  obtain ⟨hc, hg, hn⟩ := look_new h
  obtain ⟨hw, hok, _⟩ := canK_in hc
  have hwp := with_put (x := entK b.c k body ans) hf h
  have hlk := h
  have CX := Lib.hid (fun W => last_any b.c k hk hok W)
  have CP := Lib.hid (fun W => keyPlace_any hw hk W)
  have HWP := Lib.hid hwp
  have HXE := Lib.hid (show withY b now who k body ans = { b with l := put (pl who k) (entK b.c k body ans) (cnt now b.l) } from rfl)
  have HN := Lib.hid h; clear h hk hf hc hg hn hw hok hwp hlk
  go_enter Try.func16, Try.ntmps16
  go_upto_region 1 with fail
  obtain ⟨W, hW⟩ : ∃ W, (w.alloc (.cells (b.cells o) 31)).alloc (.cells Z21 31) = W := ⟨_, rfl⟩
  rw [hW] at HT HA ⊢; clear hW
  generalize w.heap.size + 1 = q at HT ⊢
  generalize hgg : w.heap.size = g at HT ⊢
  have HGG := Lib.hid hgg; clear hgg
  have HK := Lib.hid HT.out.bk
  go_wp2_with ((with_reducible apply wpList_load_ky (h := HK.out)); exact rfl; exact rfl; exact rfl)
  refine (CL.out _ HA.out).mono ?_
  rintro e w1 ⟨rfl, hb1⟩
  have H1 := Lib.hid (HT.out.step hb1); have A1 := Lib.hid (HA.out.step hb1); clear HT HA HK CL hb1
  generalize lookK b now who k body = lk at *
  obtain ⟨s1, n1⟩ := lk
  have HN1 : Hid (n1 = 1) := Lib.hid HN.out
  obtain rfl := HN1.out
  clear HN HN1
  have HXX := Lib.hid (show entK b.c k body ans = ⟨lastK b.c k, body, ans⟩ from rfl)
  generalize entK b.c k body ans = x at *
  have HC := Lib.hid (KyAt.kc H1.out.bk)
  go_upto_region 4 with fail
  go_wp2_with ((with_reducible apply wpList_load_cpart (c := b.c) (h := HC.out)); exact rfl; exact rfl; exact rfl)
  refine (CX.out _).mono ?_
  rintro e w2 ⟨rfl, hb2⟩
  have H2 := Lib.hid (H1.out.step hb2); have A2 := Lib.hid (A1.out.step hb2); clear H1 A1 HC CX hb2
  generalize lastK b.c k = z at *
  go_upto_region 5 with fail
  have hE := EAt.new w2 x
  have hbn := below_new w2 (.cells x.cells 65)
  have hxc : x.cells = #[.int .i64 z, .string body, .string ans] := by rw [HXX.out]; rfl
  obtain ⟨w3, hw3⟩ : ∃ w3, w2.alloc (.cells #[.int .i64 z, .string body, .string ans] 65) = w3 := ⟨_, rfl⟩
  have hw4 : w2.alloc (.cells x.cells 65) = w3 := by rw [hxc]; exact hw3
  rw [hw4] at hE hbn; rw [hw3]; clear hw3 hw4 hxc HXX
  have H3 := Lib.hid (H2.out.step hbn); have A3 := Lib.hid (A2.out.step hbn); have HE := Lib.hid hE; clear H2 A2 hE hbn
  generalize w2.heap.size = s at *
  refine AnyOrder.region_store2 12 [.eq (b.V o), .eq (.int .i64 now), .of (ShAt (cnt now b.l) b.rm), .eq (.int .i64 who), .eq (.int .u64 k), .eq (.string (pl who k)), .eq (x.V), .of (TpAt (Sh.wput b.rm (pl who k) x (cnt now b.l)) b.rm (Sh.wok b.rm (pl who k) (cnt now b.l))), .of (TpAt (Sh.wput b.rm (pl who k) x (cnt now b.l)) b.rm (Sh.wok b.rm (pl who k) (cnt now b.l))), .of (ShAt (Sh.wput b.rm (pl who k) x (cnt now b.l)) b.rm), .eq (.bool (Sh.wok b.rm (pl who k) (cnt now b.l))), .eq (ptr g 18)] (fun wx => Below w3.heap.size w3 wx) 10 46 47 45 29 (.bool (Sh.wok b.rm (pl who k) (cnt now b.l))) _ _ (by kernel_rfl) (by kernel_rfl) rfl (by kernel_rfl) rfl rfl (by decide) rfl rfl rfl rfl rfl (by decide) rfl (fun a w w1 hJ hd hr hs => by obtain ⟨v', e, _⟩ := hd 8 36 (by decide) (by decide) rfl; generalize a.eval = ρ at e ⊢; simp [execOp, e, go_sem]) (below_drewN (Below.refl _ _) 1) (by intro p wa wb hp hj hb v hv; simp at hp; rcases hp with rfl | rfl | rfl | rfl <;> (first | exact ShAt.keep hv hb | exact TpAt.keep hv hb | exact TpAt.keep hv hb | exact ShAt.keep hv hb | fail)) ?_ ?_
  · intro i o listed a1 w2 hin ho st hl hdep
    match i, ho with
    | 0, ho => (injection ho with ho; subst ho; have ec : ∀ v, a1.eval (.const v) = v := fun _ => rfl; have ef : ∀ f, a1.eval (.func f) = .func (.func f) #[] #[] := fun _ => rfl; have e0 : a1.eval (.tmp 6) = ptr g 0 := st.old hl 6 (by kernel_rfl); exact AnyOrder.step_value rfl (AnyOrder.wanted_none rfl) (b.V o) (run_load_ky e0 (At.step H3.out.bk st.inv)) st.inv (Below.refl _ _) rfl)
    | 1, ho => (injection ho with ho; subst ho; have ec : ∀ v, a1.eval (.const v) = v := fun _ => rfl; have ef : ∀ f, a1.eval (.func f) = .func (.func f) #[] #[] := fun _ => rfl; have e0 : a1.eval (.tmp 1) = .int .i64 now := st.old hl 1 (by kernel_rfl); exact AnyOrder.step_value rfl (AnyOrder.wanted_none rfl) (.int .i64 now) (AnyOrder.run_move e0) st.inv (Below.refl _ _) rfl)
    | 2, ho => (injection ho with ho; subst ho; have ec : ∀ v, a1.eval (.const v) = v := fun _ => rfl; have ef : ∀ f, a1.eval (.func f) = .func (.func f) #[] #[] := fun _ => rfl; have e0 : a1.eval (.tmp 37) = b.V o := st.done 0 37 (hdep ⟨0, .data⟩ (by simp) rfl) rfl; have e1 : a1.eval (.tmp 38) = .int .i64 now := st.done 1 38 (hdep ⟨1, .data⟩ (by simp) rfl) rfl; exact AnyOrder.step_call rfl (AnyOrder.wanted_none rfl) 30 #[b.V o, .int .i64 now] (by generalize a1.eval = ρ at ec ef e0 e1 ⊢; simp [execOp, ec, ef, e0, e1, go_sem]) ((counting_any now (A3.out.step st.inv)).mono (fun e w4 h => by obtain ⟨vk, rfl, ho, hb⟩ := h; exact ⟨_, rfl, st.inv.trans (hb.mono st.inv.size), hb, ho⟩)))
    | 3, ho => (injection ho with ho; subst ho; have ec : ∀ v, a1.eval (.const v) = v := fun _ => rfl; have ef : ∀ f, a1.eval (.func f) = .func (.func f) #[] #[] := fun _ => rfl; have e0 : a1.eval (.tmp 2) = .int .i64 who := st.old hl 2 (by kernel_rfl); exact AnyOrder.step_value rfl (AnyOrder.wanted_none rfl) (.int .i64 who) (AnyOrder.run_move e0) st.inv (Below.refl _ _) rfl)
    | 4, ho => (injection ho with ho; subst ho; have ec : ∀ v, a1.eval (.const v) = v := fun _ => rfl; have ef : ∀ f, a1.eval (.func f) = .func (.func f) #[] #[] := fun _ => rfl; have e0 : a1.eval (.tmp 3) = .int .u64 k := st.old hl 3 (by kernel_rfl); exact AnyOrder.step_value rfl (AnyOrder.wanted_none rfl) (.int .u64 k) (AnyOrder.run_move e0) st.inv (Below.refl _ _) rfl)
    | 5, ho => (injection ho with ho; subst ho; have ec : ∀ v, a1.eval (.const v) = v := fun _ => rfl; have ef : ∀ f, a1.eval (.func f) = .func (.func f) #[] #[] := fun _ => rfl; have e0 : a1.eval (.tmp 40) = .int .i64 who := st.done 3 40 (hdep ⟨3, .data⟩ (by simp) rfl) rfl; have e1 : a1.eval (.tmp 41) = .int .u64 k := st.done 4 41 (hdep ⟨4, .data⟩ (by simp) rfl) rfl; exact AnyOrder.step_call rfl (AnyOrder.wanted_none rfl) 29 #[.int .i64 who, .int .u64 k] (by generalize a1.eval = ρ at ec ef e0 e1 ⊢; simp [execOp, ec, ef, e0, e1, go_sem]) ((CP.out w2).mono (fun e w3 h => by obtain ⟨rfl, hb⟩ := h; exact ⟨_, rfl, st.inv.trans (hb.mono st.inv.size), hb, rfl⟩)))
    | 6, ho => (injection ho with ho; subst ho; have ec : ∀ v, a1.eval (.const v) = v := fun _ => rfl; have ef : ∀ f, a1.eval (.func f) = .func (.func f) #[] #[] := fun _ => rfl; have e0 : a1.eval (.tmp 16) = ptr s 0 := st.old hl 16 (by kernel_rfl); exact AnyOrder.step_value rfl (AnyOrder.wanted_none rfl) (x.V) (run_load_e e0 (At.step HE.out st.inv)) st.inv (Below.refl _ _) rfl)
    | 7, ho => (injection ho with ho; subst ho; have ec : ∀ v, a1.eval (.const v) = v := fun _ => rfl; have ef : ∀ f, a1.eval (.func f) = .func (.func f) #[] #[] := fun _ => rfl; have e0 := st.done 2 39 (hdep ⟨2, .data⟩ (by simp) rfl) rfl; have e1 : a1.eval (.tmp 42) = .string (pl who k) := st.done 5 42 (hdep ⟨5, .data⟩ (by simp) rfl) rfl; have e2 : a1.eval (.tmp 43) = x.V := st.done 6 43 (hdep ⟨6, .data⟩ (by simp) rfl) rfl; obtain ⟨v18, e18⟩ : ∃ v, a1.eval (.tmp 39) = v := ⟨_, rfl⟩; rw [e18] at e0; have e0 : Sh.SAt w2 v18 _ _ := e0; exact AnyOrder.step_call rfl (AnyOrder.wanted_none rfl) 31 #[v18, .string (pl who k), x.V] (by generalize a1.eval = ρ at ec ef e18 e1 e2 ⊢; simp [execOp, ec, ef, e18, e1, e2, go_sem]) ((Sh.With_any (pl who k) x e0).mono (fun e w4 h => by obtain ⟨vk, rfl, ho, hb⟩ := h; exact ⟨_, rfl, st.inv.trans (hb.mono st.inv.size), hb, ⟨vk, rfl, ho⟩⟩)))
    | 8, ho => (injection ho with ho; subst ho; have ec : ∀ v, a1.eval (.const v) = v := fun _ => rfl; have ef : ∀ f, a1.eval (.func f) = .func (.func f) #[] #[] := fun _ => rfl; have e0 := st.done 7 44 (hdep ⟨7, .data⟩ (by simp) rfl) rfl; obtain ⟨v18, e18⟩ : ∃ v, a1.eval (.tmp 44) = v := ⟨_, rfl⟩; rw [e18] at e0; exact AnyOrder.step_value rfl (AnyOrder.wanted_none rfl) v18 (AnyOrder.run_move e18) st.inv (Below.refl _ _) e0)
    | 9, ho => (injection ho with ho; subst ho; have ec : ∀ v, a1.eval (.const v) = v := fun _ => rfl; have ef : ∀ f, a1.eval (.func f) = .func (.func f) #[] #[] := fun _ => rfl; have e0 := st.done 8 36 (hdep ⟨8, .data⟩ (by simp) rfl) rfl; obtain ⟨v18, e18, h18⟩ := e0; exact AnyOrder.step_value rfl (AnyOrder.wanted_none rfl) v18 (by generalize a1.eval = ρ at ec ef e18 ⊢; simp [execOp, e18, go_sem]) st.inv (Below.refl _ _) h18)
    | 10, ho => (injection ho with ho; subst ho; have ec : ∀ v, a1.eval (.const v) = v := fun _ => rfl; have ef : ∀ f, a1.eval (.func f) = .func (.func f) #[] #[] := fun _ => rfl; have e0 := st.done 8 36 (hdep ⟨8, .data⟩ (by simp) rfl) rfl; obtain ⟨v18, e18, h18⟩ := e0; exact AnyOrder.step_value rfl (AnyOrder.wanted_none rfl) _ (by generalize a1.eval = ρ at ec ef e18 ⊢; simp [execOp, e18, go_sem]) st.inv (Below.refl _ _) rfl)
    | 11, ho => (injection ho with ho; subst ho; have ec : ∀ v, a1.eval (.const v) = v := fun _ => rfl; have ef : ∀ f, a1.eval (.func f) = .func (.func f) #[] #[] := fun _ => rfl; have e0 : a1.eval (.tmp 6) = ptr g 0 := st.old hl 6 (by kernel_rfl); exact AnyOrder.step_value rfl (AnyOrder.wanted_none rfl) (ptr g 18) (by generalize a1.eval = ρ at ec ef e0 ⊢; simp [execOp, ec, ef, e0, IntWalk.i64_left, go_sem]) st.inv (Below.refl _ _) rfl)
    | n + 12, ho => exact absurd hin (by omega)
  · intro w6 hJ6
    simp only [AnyOrder.finK, List.take_succ_cons, List.take_zero, List.drop_succ_cons, List.drop_zero, Act.put, List.setIfInBounds_toArray, List.set_cons_zero, List.set_cons_succ]
    intro v2 h2 v7 h7 v8 h8 v9 h9
    have h9 : Sh.SAt w6 v9 (Sh.wput b.rm (pl who k) x (cnt now b.l)) b.rm := h9
    rw [HWP.out.1] at h9
    obtain ⟨o9, rfl⟩ := h9.form
    have H6 := Lib.hid (H3.out.step hJ6)
    have A6 := Lib.hid (A3.out.step hJ6)
    refine ⟨_, run_store_lv H6.out.bk rfl rfl, ?_⟩
    have H7 := Lib.hid (H6.out.three (H6.out.bk.setL (put (pl who k) x (cnt now b.l)) o9))
    have hy : YAt (((w6.setCell ⟨g, 18, none⟩ (.pointer o9)).setCell ⟨g, 19, none⟩ (.int .i64 ((put (pl who k) x (cnt now b.l)).length : Int))).setCell ⟨g, 20, none⟩ (.int .i64 (b.rm : Int))) ({ b with l := put (pl who k) x (cnt now b.l) } : Ky) o9 := SAt.three H6.out.bk (by decide) (by decide) h9
    have HF := Lib.hid (H7.out.fin hy 0)
    have HG := Lib.hid H7.out.bk; have HQ := Lib.hid H7.out.ans
    rw [← HXE.out] at HF HG
    generalize withY b now who k body ans = d at *
    clear H3 A3 H6 A6 hJ6 h2 h7 h8 h9 H7 hy HE
    go_wp2_with (first | ((with_reducible apply wpList_load_ky (h := HG.out)); exact rfl; exact rfl; exact rfl) | ((with_reducible apply wpList_store_ky (b := d) (s := o9) (hq := HQ.out)); exact rfl; exact rfl; exact rfl; exact rfl))
    exact bodyPost_ret (results_two Try.results16 rfl rfl HF.out.1) rfl HF.out.2
theorem keysWith_any {b : Ky} {o : Option Addr} {w : World} (now who k : Int) (body ans : ByteArray) (hk : isU k) (hb : YAt w b o) (hf : b.fit) :
    Calls Try.prog 16 #[b.V o, .int .i64 now, .int .i64 who, .int .u64 k, .string body, .string ans] w (YAns2 w (withK b now who k body ans)) := by
  by_cases h : (lookK b now who k body).2 = 1
  · exact with_new now who k body ans hk hb hf h
  · exact with_no now who k body ans hk hb h
theorem fit_make (c : Cfg) : (makeK c).fit := by
  unfold makeK Ky.fit
  split
  · next h =>
    intro _
    have h5 : lo 5 ≤ c.get 5 ∧ c.get 5 ≤ hi 5 := ok_at h (by decide)
    have h5 : (1 : Int) ≤ c.get 5 ∧ c.get 5 ≤ 64 := h5
    show ((c.get 5).toNat : Int) = c.get 5
    omega
  · intro h
    have : okc zc = false := by decide
    rw [show zy.c = zc from rfl, this] at h
    cases h
theorem fit_with {b : Ky} (h : b.fit) (now who k : Int) (body ans : ByteArray) : (withY b now who k body ans).fit := h
end Go.Proofs.Ytedogbkkophghaa
